/- Lemmas that the proof leans on. -/
import Derived.Test.YtkjempffidndeaaGreatDoorB30
namespace Go.Proofs.YtkjempffidndeaaGreatDoor
open Go Go.RowKit
set_option maxRecDepth 100000
set_option maxHeartbeats 2000000
section
variable {base : Nat} {X : List Nat} {w : World} {q : Nat} {v : Value} {L : Ro}
theorem unsE_none {L : Ro} {id : Int} (h : gt L id = none) : unsE (abs L) id = 5 := by rw [unsE, gt_abs, h]; rfl
theorem unsE_par {L : Ro} {id : Int} {s : Sr} (h : gt L id = some s) (h0 : s.par = 0) : unsE (abs L) id = 10 := by
 rw [unsE, gt_abs, h]
 show (if s.f.par = 0 then 10 else 0) = 10
 rw [if_pos (show s.f.par = 0 from h0)]
theorem unsE_ok {L : Ro} {id : Int} {s : Sr} (h : gt L id = some s) (h0 : s.par ≠ 0) : unsE (abs L) id = 0 := by
 rw [unsE, gt_abs, h]
 show (if s.f.par = 0 then 10 else 0) = 0
 rw [if_neg (show ¬ s.f.par = 0 from h0)]
theorem Df.same {g g' : Nat} (hg : v.ownBlock = some g) (hg' : v.ownBlock = some g') : g = g' := by
 rw [hg] at hg'
 exact Option.some.inj hg'
theorem par_at {L : Ro} (hI : Inv (abs L)) {id : Int} {s : Sr} (hs : gt L id = some s) (h0 : s.par ≠ 0) : ∃ sp, gt L s.par = some sp := by
 obtain ⟨sq, hsq⟩ := hI.acy.par id s.f (by rw [gt_abs, hs]; rfl) h0
 rw [gt_abs] at hsq
 obtain ⟨sp, h1, _⟩ := Option.map_eq_some_iff.1 hsq
 exact ⟨sp, h1⟩
theorem mem_gt {L : Ro} {id : Int} {s : Sr} (h : gt L id = some s) : (id, s) ∈ L := by
 obtain ⟨i, h1, _⟩ := at_key h
 exact List.mem_of_getElem? h1
theorem nod_abs {L : Ro} (h : Inv (abs L)) : (keys L).Nodup := by rw [← abs_keys]; exact h.nod
theorem rpos_any (h : Df base X w q v L) (hX : ∀ P ∈ X, P < w.heap.size) (hI : Inv (abs L)) {m : Nat} (hZ : Szf m (abs L)) (hm : m ≤ 900) (id x y : Int) :
  Calls Tryz.prog 48 #[.pointer (some ⟨q, 0, none⟩), .int .i64 id, .int .i64 x, .int .i64 y] w (RfR base X w q v (unsE (abs L) id) (posF (abs L) id x y)) := by
 have CS := hid (rs_any h id)
 cases hs : gt L id with
 | none =>
  have HE : Hid (RfR base X w q v (unsE (abs L) id) (posF (abs L) id x y) (.returned (.int .i64 5)) w) :=
   ⟨by rw [unsE_none hs]; rfl, L, h, by rw [posF, gt_abs, hs]; rfl, Kp.refl _ _⟩
  have HN := hid hs
  clear h hX hI hZ hs
  go_enter Tryz.func48, Tryz.ntmps48
  go_wp2_with fail
  refine CS.out.mono ?_
  rintro e w1 ⟨r, rfl, hr, rfl⟩
  obtain rfl := hr.no HN.out
  clear hr CS
  go_wp2
  go_ret
  exact HE.out
 | some s =>
  have HN := hid hs
  have HD := hid h
  by_cases h0 : s.par = 0
  ·have HE : Hid (RfR base X w q v (unsE (abs L) id) (posF (abs L) id x y) (.returned (.int .i64 10)) w) :=
    ⟨by rw [unsE_par hs h0]; rfl, L, h, by rw [posF, gt_abs, hs]; exact (if_pos (show s.f.par = 0 from h0)).symm, Kp.refl _ _⟩
   clear h hX hI hZ hs
   go_enter Tryz.func48, Tryz.ntmps48
   go_wp2_with fail
   refine CS.out.mono ?_
   rintro e w1 ⟨r, rfl, hr, rfl⟩
   obtain ⟨g, i, rfl, hg, hi⟩ := hr.ys HN.out
   have c1 : w1.cell? ⟨g, i * 33 + 1, none⟩ = some (.int .i64 s.par) := HD.out.at_ hi hg (by omega)
   rw [h0] at c1
   clear hr CS hg hi
   go_wp2
   go_ret
   exact HE.out
  ·obtain ⟨sp, hsp⟩ := par_at hI hs h0
   have CP := hid (rs_any h s.par)
   have hlen := (zs_len (hZ _ _ (by rw [gt_abs, hsp]; rfl)) (h.ok _ (mem_gt hsp)) hm).1.2.2.2.2
   have HFIN : Hid (∀ (ip : Nat) (l : Sl), L[ip]? = some (s.par, sp) → l.l = put1 sp.pe.pl.l [id, edg x, edg y] → unsE (abs L) id = 0 ∧ abs (L.set ip (s.par, plR l sp)) = posF (abs L) id x y) := fun ip l hip hl => by
    refine ⟨unsE_ok hs h0, ?_⟩
    rw [← st_set (nod_abs hI) hip, abs_upd hsp (plcS [id, edg x, edg y]) (plR l sp) (plR_f hl), posF, gt_abs, hs]
    exact (if_neg (show ¬ s.f.par = 0 from h0)).symm
   have HSP := hid hsp
   have HX := hid hX
   have e0 : (s.par == 0) = false := beq_false_of_ne h0
   clear h hX hI hZ hs hsp
   go_enter Tryz.func48, Tryz.ntmps48
   go_wp2_with fail
   refine CS.out.mono ?_
   rintro e w1 ⟨r, rfl, hr, hw1⟩
   obtain rfl : w = w1 := hw1.symm
   obtain ⟨g, i, rfl, hg, hi⟩ := hr.ys HN.out
   have c1 : w.cell? ⟨g, i * 33 + 1, none⟩ = some (.int .i64 s.par) := HD.out.at_ hi hg (by omega)
   have HG := hid hg
   clear hr CS hg hi hw1
   go_wp2_with fail
   refine CP.out.mono ?_
   rintro e w2 ⟨r, rfl, hr, hw2⟩
   obtain rfl : w = w2 := hw2.symm
   obtain ⟨g', ip, rfl, hg', hip⟩ := hr.ys HSP.out
   obtain rfl := Df.same HG.out hg'
   have HIP := hid hip
   clear hr CP hg' hip hw2
   go_wp2_with fail
   refine (edge_any x w).mono ?_
   rintro e w3 ⟨rfl, hw3⟩
   obtain rfl : w = w3 := hw3.symm
   clear hw3
   go_wp2_with fail
   refine (edge_any y w).mono ?_
   rintro e w4 ⟨rfl, hw4⟩
   obtain rfl : w = w4 := hw4.symm
   clear hw4
   go_wp2_with fail
   refine (dplace_any HD.out HX.out HIP.out HG.out (by omega) id (edg x) (edg y)).mono ?_
   rintro e w5 ⟨rfl, l, hl, hd, hk⟩
   obtain ⟨u0, hfin⟩ := HFIN.out ip l HIP.out hl
   have HE : Hid (RfR base X w q v (unsE (abs L) id) (posF (abs L) id x y) (.returned (.int .i64 0)) w5) := ⟨by rw [u0]; rfl, _, hd, hfin, kp_own HG.out hk⟩
   clear hl hd hk u0 hfin
   go_wp2
   go_ret
   exact HE.out
theorem putE_none {L : Ro} {id by_ : Int} {b : Nat} (h : gt L id = none) : putE (abs L) id by_ b = 5 ∧ putF (abs L) id by_ b = abs L := by
 have hp : putL (abs L) id by_ b = none := by rw [putL, gt_abs, h]; rfl
 exact ⟨by rw [putE, unsE_none h]; rfl, by rw [putF, hp]⟩
theorem putE_par {L : Ro} {id by_ : Int} {b : Nat} {s : Sr} (h : gt L id = some s) (h0 : s.par = 0) : putE (abs L) id by_ b = 10 ∧ putF (abs L) id by_ b = abs L := by
 have hp : putL (abs L) id by_ b = none := by
  rw [putL, gt_abs, h]
  exact if_pos (show s.f.par = 0 from h0)
 exact ⟨by rw [putE, unsE_par h h0]; rfl, by rw [putF, hp]⟩
def putO (p id by_ : Int) (b : Nat) (l : List Int) : Option (List Int) := if by_ = p then bes l id 0 b else if by_ = 0 then none else bes l id by_ b
theorem putL_eq {L : Ro} {id by_ : Int} {b : Nat} {s sp : Sr} (h : gt L id = some s) (h0 : s.par ≠ 0) (hsp : gt L s.par = some sp) : putL (abs L) id by_ b = (putO s.par id by_ b (un1 (lat sp.f))).map fun m => (s.par, m) := by
 rw [putL, gt_abs, h]
 show (if s.f.par = 0 then none else _) = _
 rw [if_neg (show ¬ s.f.par = 0 from h0), gt_abs, show s.f.par = s.par from rfl, hsp]
 unfold putO
 show (if by_ = s.par then _ else _) = _
 split
 ·rfl
 ·split
  ·rfl
  ·rfl
theorem putE_ok {L : Ro} {id by_ : Int} {b : Nat} {s sp : Sr} (h : gt L id = some s) (h0 : s.par ≠ 0) (hsp : gt L s.par = some sp) {m : List Int} (hm : putO s.par id by_ b (un1 (lat sp.f)) = some m) : putE (abs L) id by_ b = 0 ∧ putF (abs L) id by_ b = upd (abs L) s.par (ordS (sg m)) := by
 have hp : putL (abs L) id by_ b = some (s.par, m) := by rw [putL_eq h h0 hsp, hm]; rfl
 exact ⟨by rw [putE, unsE_ok h h0, hp]; rfl, by rw [putF, hp]⟩
theorem putE_no {L : Ro} {id by_ : Int} {b : Nat} {s sp : Sr} (h : gt L id = some s) (h0 : s.par ≠ 0) (hsp : gt L s.par = some sp) (hm : putO s.par id by_ b (un1 (lat sp.f)) = none) : putE (abs L) id by_ b = 11 ∧ putF (abs L) id by_ b = abs L := by
 have hp : putL (abs L) id by_ b = none := by rw [putL_eq h h0 hsp, hm]; rfl
 exact ⟨by rw [putE, unsE_ok h h0, hp]; rfl, by rw [putF, hp]⟩
theorem rputf_any (h : Df base X w q v L) (hX : ∀ P ∈ X, P < w.heap.size) (hI : Inv (abs L)) {m : Nat} (hZ : Szf m (abs L)) (hm : m ≤ 900) (id by_ : Int) (b : Nat) (hb1 : b ≤ 1) :
  Calls Tryz.prog 50 #[.pointer (some ⟨q, 0, none⟩), .int .i64 id, .int .i64 by_, .int .i64 b] w (RfR base X w q v (putE (abs L) id by_ b) (putF (abs L) id by_ b)) := by
 have CS := hid (rs_any h id)
 cases hs : gt L id with
 | none =>
  have HE : Hid (RfR base X w q v (putE (abs L) id by_ b) (putF (abs L) id by_ b) (.returned (.int .i64 5)) w) :=
   ⟨by rw [(putE_none hs).1]; rfl, L, h, (putE_none hs).2.symm, Kp.refl _ _⟩
  have HN := hid hs
  clear h hX hI hZ hs
  go_enter Tryz.func50, Tryz.ntmps50
  go_wp2_with fail
  refine CS.out.mono ?_
  rintro e w1 ⟨r, rfl, hr, rfl⟩
  obtain rfl := hr.no HN.out
  clear hr CS
  go_wp2
  go_ret
  exact HE.out
 | some s =>
  have HN := hid hs
  have HD := hid h
  by_cases h0 : s.par = 0
  ·have HE : Hid (RfR base X w q v (putE (abs L) id by_ b) (putF (abs L) id by_ b) (.returned (.int .i64 10)) w) :=
    ⟨by rw [(putE_par hs h0).1]; rfl, L, h, (putE_par hs h0).2.symm, Kp.refl _ _⟩
   clear h hX hI hZ hs
   go_enter Tryz.func50, Tryz.ntmps50
   go_wp2_with fail
   refine CS.out.mono ?_
   rintro e w1 ⟨r, rfl, hr, rfl⟩
   obtain ⟨g, i, rfl, hg, hi⟩ := hr.ys HN.out
   have c1 : w1.cell? ⟨g, i * 33 + 1, none⟩ = some (.int .i64 s.par) := HD.out.at_ hi hg (by omega)
   rw [h0] at c1
   clear hr CS hg hi
   go_wp2
   go_ret
   exact HE.out
  ·obtain ⟨sp, hsp⟩ := par_at hI hs h0
   have CP := hid (rs_any h s.par)
   have hokp := h.ok _ (mem_gt hsp)
   have hz := hZ _ _ (show gt (abs L) s.par = some sp.f by rw [gt_abs, hsp]; rfl)
   have hlat := latS_ok hokp
   have hlen := lat_length hz
   rw [← latS_l, hlat.len] at hlen
   have hrz := rz_of_rdm hlat
   rw [un1_lat] at hrz
   have HRZ := hid hrz
   have CH := hid (ohasr_any _ _ _ _ by_ w hrz)
   have CP0 := hid (oputr_any _ _ _ _ id 0 b hb1 w hrz (by omega))
   have CP1 := hid (oputr_any _ _ _ _ id by_ b hb1 w hrz (by omega))
   have hblk := h.blk hX
   have HNO : Hid (putO s.par id by_ b (un1 (lat sp.f)) = none → RfR base X w q v (putE (abs L) id by_ b) (putF (abs L) id by_ b) (.returned (.int .i64 11)) w) := fun hp =>
    ⟨by rw [(putE_no hs h0 hsp hp).1]; rfl, L, h, (putE_no hs h0 hsp hp).2.symm, Kp.refl _ _⟩
   have HNB : Hid (∀ w', Below w.heap.size w w' → putO s.par id by_ b (un1 (lat sp.f)) = none → RfR base X w q v (putE (abs L) id by_ b) (putF (abs L) id by_ b) (.returned (.int .i64 11)) w') := fun w' hbw hp =>
    ⟨by rw [(putE_no hs h0 hsp hp).1]; rfl, L, h.on hbw, (putE_no hs h0 hsp hp).2.symm, kp_of_below hbw _⟩
   have HYES : Hid (∀ (ip : Nat) (l : Sl) (m : List Int) (w' : World), L[ip]? = some (s.par, sp) → putO s.par id by_ b (un1 (lat sp.f)) = some m → l.l = sg m → Df base X w' q v (L.set ip (s.par, ordR l sp)) → Kp v.ownBlock.toList w w' → RfR base X w q v (putE (abs L) id by_ b) (putF (abs L) id by_ b) (.returned (.int .i64 0)) w') := fun ip l m w' hip hp hl hd hk => by
    refine ⟨by rw [(putE_ok hs h0 hsp hp).1]; rfl, _, hd, ?_, hk⟩
    rw [(putE_ok hs h0 hsp hp).2, ← st_set (nod_abs hI) hip, abs_upd hsp (ordS (sg m)) (ordR l sp) (by rw [ordR_f, hl])]
   have HSP := hid hsp
   have HBLK := hid hblk
   have e0 : (s.par == 0) = false := beq_false_of_ne h0
   obtain ⟨K, hK⟩ : ∃ K, K = un1 (lat sp.f) := ⟨_, rfl⟩
   rw [← hK] at HNO HNB HYES CH CP0 CP1
   clear h hX hI hZ hs hsp hokp hz hlat hlen hrz hblk HRZ
   go_enter Tryz.func50, Tryz.ntmps50
   go_wp2_with fail
   refine CS.out.mono ?_
   rintro e w1 ⟨r, rfl, hr, hw1⟩
   obtain rfl : w = w1 := hw1.symm
   obtain ⟨g, i, rfl, hg, hi⟩ := hr.ys HN.out
   have c1 : w.cell? ⟨g, i * 33 + 1, none⟩ = some (.int .i64 s.par) := HD.out.at_ hi hg (by omega)
   have HG := hid hg
   clear hr CS hg hi hw1
   go_wp2_with fail
   refine CP.out.mono ?_
   rintro e w2 ⟨r, rfl, hr, hw2⟩
   obtain rfl : w = w2 := hw2.symm
   obtain ⟨g', ip, rfl, hg', hip⟩ := hr.ys HSP.out
   obtain rfl := Df.same HG.out hg'
   have HIP := hid hip
   have CL := hid (latest_any HD.out hip HG.out)
   clear hr CP hg' hip hw2
   have HK := hid hK
   clear hK
   by_cases hbp : by_ = s.par
   ·have e1 : (by_ == s.par) = true := beq_iff_eq.2 hbp
    have HPO : Hid (putO s.par id by_ b K = bes K id 0 b) := if_pos hbp
    clear hbp CP1 CH HNO
    go_wp2_with fail
    refine CL.out.mono ?_
    rintro e x1 ⟨rfl, hx1⟩
    obtain rfl : w = x1 := hx1.symm
    clear hx1
    go_wp2_with fail
    refine CP0.out.mono ?_
    rintro e x2 hx2
    cases hbs : bes K id 0 b with
    | none =>
     rw [hbs] at hx2
     obtain ⟨rfl, hbw⟩ := hx2
     have HE := hid (HNB.out _ hbw (by rw [HPO.out, hbs]))
     clear hbw hbs
     go_wp2
     go_ret
     exact HE.out
    | some m =>
     rw [hbs] at hx2
     obtain ⟨vm, rfl, hom⟩ := hx2
     obtain ⟨l, rfl, hl1, hl2, hl3⟩ := sl_of_owz hom
     have HO := hid (order_any (HD.out.on hom.bel) HIP.out HG.out l hl2 (far_new hl3 HBLK.out))
     have HL1 := hid hl1
     have HBM := hid hom.bel
     have HBS := hid hbs
     clear hom hl1 hl2 hl3 hbs
     go_wp2_with fail
     refine HO.out.mono ?_
     rintro e x3 ⟨rfl, hd, hk⟩
     have HE := hid (HYES.out ip l m x3 HIP.out (by rw [HPO.out, HBS.out]) HL1.out hd (kp_own HG.out ((kp_of_below HBM.out [g]).trans hk (fun k hk _ => hk))))
     clear hd hk
     go_wp2
     go_ret
     exact HE.out
   ·have e1 : (by_ == s.par) = false := beq_false_of_ne hbp
    by_cases hb0 : by_ = 0
    ·have HPO : Hid (putO s.par id by_ b K = none) := by rw [Hid, putO, if_neg hbp, if_pos hb0]
     have e2 : (by_ == 0) = true := beq_iff_eq.2 hb0
     have HE := hid (HNO.out HPO.out)
     clear hbp hb0 CP0 CP1 CH
     go_wp2
     go_ret
     exact HE.out
    ·have HPO : Hid (putO s.par id by_ b K = bes K id by_ b) := by rw [Hid, putO, if_neg hbp, if_neg hb0]
     have e2 : (by_ == 0) = false := beq_false_of_ne hb0
     by_cases hbi : by_ = id
     ·have e3 : (by_ == id) = true := beq_iff_eq.2 hbi
      have HE := hid (HNO.out (by rw [HPO.out, bes_doc, if_pos (.inl hbi.symm)]))
      clear hbp hb0 hbi CP0 CP1 CH
      go_wp2
      go_ret
      exact HE.out
     ·have e3 : (by_ == id) = false := beq_false_of_ne hbi
      clear hbp hb0 hbi CP0
      cases hzx : zx by_ K with
      | none =>
       rw [hzx] at CH
       have HE := hid (HNO.out (by rw [HPO.out, bes_doc, if_pos (.inr (.inr hzx))]))
       clear hzx
       go_wp2_with fail
       refine CL.out.mono ?_
       rintro e x1 ⟨rfl, hx1⟩
       obtain rfl : w = x1 := hx1.symm
       clear hx1
       go_wp2_with fail
       refine CH.out.mono ?_
       rintro e x2 ⟨rfl, hx2⟩
       obtain rfl : w = x2 := hx2.symm
       clear hx2
       go_wp2
       go_ret
       exact HE.out
      | some t =>
       rw [hzx] at CH
       clear hzx
       go_wp2_with fail
       refine CL.out.mono ?_
       rintro e x1 ⟨rfl, hx1⟩
       obtain rfl : w = x1 := hx1.symm
       clear hx1
       go_wp2_with fail
       refine CH.out.mono ?_
       rintro e x2 ⟨rfl, hx2⟩
       obtain rfl : w = x2 := hx2.symm
       clear hx2
       go_wp2_with fail
       refine CL.out.mono ?_
       rintro e x1 ⟨rfl, hx1⟩
       obtain rfl : w = x1 := hx1.symm
       clear hx1
       go_wp2_with fail
       refine CP1.out.mono ?_
       rintro e x2 hx2
       cases hbs : bes K id by_ b with
       | none =>
        rw [hbs] at hx2
        obtain ⟨rfl, hbw⟩ := hx2
        have HE := hid (HNB.out _ hbw (by rw [HPO.out, hbs]))
        clear hbw hbs
        go_wp2
        go_ret
        exact HE.out
       | some m =>
        rw [hbs] at hx2
        obtain ⟨vm, rfl, hom⟩ := hx2
        obtain ⟨l, rfl, hl1, hl2, hl3⟩ := sl_of_owz hom
        have HO := hid (order_any (HD.out.on hom.bel) HIP.out HG.out l hl2 (far_new hl3 HBLK.out))
        have HL1 := hid hl1
        have HBM := hid hom.bel
        have HBS := hid hbs
        clear hom hl1 hl2 hl3 hbs
        go_wp2_with fail
        refine HO.out.mono ?_
        rintro e x3 ⟨rfl, hd, hk⟩
        have HE := hid (HYES.out ip l m x3 HIP.out (by rw [HPO.out, HBS.out]) HL1.out hd (kp_own HG.out ((kp_of_below HBM.out [g]).trans hk (fun k hk _ => hk))))
        clear hd hk
        go_wp2
        go_ret
        exact HE.out
end
section
variable {base : Nat} {X : List Nat} {w : World} {q : Nat} {v : Value} {L : Ro}
noncomputable def ptM (L : Ro) : Value → Nat
 | .pointer (some a) => match L[a.off / 33]? with
  | some e => dpt (abs L) e.1
  | none => 0
 | _ => 0
theorem ptM_at {g i : Nat} {e : Int × Sr} (h : L[i]? = some e) : ptM L (.pointer (some ⟨g, i * 33, none⟩)) = dpt (abs L) e.1 := by
 show (match L[i * 33 / 33]? with
  | some e => dpt (abs L) e.1
  | none => 0) = _
 rw [show i * 33 / 33 = i by omega, h]
theorem Df.setSyn (h : Df base X w q v L) {i g : Nat} {id : Int} {s : Sr} (hi : L[i]? = some (id, s)) (hg : v.ownBlock = some g) (b : Bool) : Df base X (w.setCell ⟨g, i * 33 + 2, none⟩ (.bool b)) q v (L.set i (id, { s with syn := b })) ∧ Kp [g] w (w.setCell ⟨g, i * 33 + 2, none⟩ (.bool b)) := by
 have hok := h.ok _ (Df.mem hi)
 have hof := h.off _ (Df.mem hi)
 exact h.set hi hg (j := 2) (by omega) (.bool b) { s with syn := b } rfl ⟨hok.pe, hok.ca, hok.no⟩ (fun P hP => ⟨(hof P hP).pe, (hof P hP).ca, (hof P hP).no⟩)
theorem subE_no {L : Ro} {id p : Int} (h : gt L id = none ∨ gt L p = none) : subE (abs L) id p = 5 := by
 unfold subE
 rw [gt_abs, gt_abs]
 rcases h with h | h
 ·rw [h]
  rfl
 ·rw [h]
  cases gt L id <;> rfl
theorem subF_no {F : Fo} {id p : Int} (h : subE F id p ≠ 0) : subF F id p = F := by rw [subF, if_neg h]
theorem subE_yes {L : Ro} {id p : Int} {s sp : Sr} (h : gt L id = some s) (hp : gt L p = some sp) : subE (abs L) id p = if s.par ≠ 0 then 10 else if anc (abs L) p id then 11 else 0 := by
 unfold subE
 rw [gt_abs, gt_abs, h, hp]
 rfl
theorem rsub_any (h : Df base X w q v L) (hX : ∀ P ∈ X, P < w.heap.size) (hI : Inv (abs L)) {m : Nat} (hZ : Szf m (abs L)) (hm : m ≤ 900) (id p : Int) :
  Calls Tryz.prog 39 #[.pointer (some ⟨q, 0, none⟩), .int .i64 id, .int .i64 p] w (RfR base X w q v (subE (abs L) id p) (subF (abs L) id p)) := by
 have CS := hid (rs_any h id)
 have CP := hid (rs_any h p)
 have HD := hid h
 have HNO : Hid (∀ k : Nat, subE (abs L) id p = k → k ≠ 0 → RfR base X w q v (subE (abs L) id p) (subF (abs L) id p) (.returned (.int .i64 (k : Nat))) w) := fun k hk h0 =>
  ⟨by rw [hk], L, h, (subF_no (by rw [hk]; exact h0)).symm, Kp.refl _ _⟩
 cases hs : gt L id with
 | none =>
  have HE := hid (HNO.out 5 (subE_no (.inl hs)) (by decide))
  have HN := hid hs
  clear h hX hI hZ hs HNO
  go_enter Tryz.func39, Tryz.ntmps39
  go_wp2_with fail
  refine CS.out.mono ?_
  rintro e w1 ⟨r, rfl, hr, hw1⟩
  obtain rfl : w = w1 := hw1.symm
  obtain rfl := hr.no HN.out
  clear hr CS hw1
  go_wp2_with fail
  refine CP.out.mono ?_
  rintro e w2 ⟨r, rfl, hr, hw2⟩
  obtain rfl : w = w2 := hw2.symm
  clear hr CP hw2
  go_wp2
  go_ret
  exact HE.out
 | some s =>
  cases hp : gt L p with
  | none =>
   have HE := hid (HNO.out 5 (subE_no (.inr hp)) (by decide))
   have HN := hid hs
   have HM := hid hp
   clear h hX hI hZ hs hp HNO
   go_enter Tryz.func39, Tryz.ntmps39
   go_wp2_with fail
   refine CS.out.mono ?_
   rintro e w1 ⟨r, rfl, hr, hw1⟩
   obtain rfl : w = w1 := hw1.symm
   obtain ⟨g, i, rfl, hg, hi⟩ := hr.ys HN.out
   clear hr CS hw1 hg hi
   go_wp2_with fail
   refine CP.out.mono ?_
   rintro e w2 ⟨r, rfl, hr, hw2⟩
   obtain rfl : w = w2 := hw2.symm
   obtain rfl := hr.no HM.out
   clear hr CP hw2
   go_wp2
   go_ret
   exact HE.out
  | some sp =>
   have hsub := subE_yes hs hp
   have HN := hid hs
   have HM := hid hp
   by_cases h0 : s.par = 0
   ·rw [if_neg (by simpa using h0)] at hsub
    have HSUB := hid hsub
    have HA := hid hI.acy
    have hz := hZ _ _ (show gt (abs L) p = some sp.f by rw [gt_abs, hp]; rfl)
    have hlen := lat_length hz
    have hpl := (zs_len hz (h.ok _ (mem_gt hp)) hm).1.2.2.2.2
    have HX := hid hX
    have HBLK := hid (h.blk hX)
    have HNOD := hid (nod_abs hI)
    have HGA := hid (rs_any h)
    clear h hX hI hZ hs hp hsub hz
    go_enter Tryz.func39, Tryz.ntmps39
    go_wp2_with fail
    refine CS.out.mono ?_
    rintro e w1 ⟨r, rfl, hr, hw1⟩
    obtain rfl : w = w1 := hw1.symm
    obtain ⟨g, i, rfl, hg, hi⟩ := hr.ys HN.out
    have c1 : w.cell? ⟨g, i * 33 + 1, none⟩ = some (.int .i64 s.par) := HD.out.at_ hi hg (by omega)
    rw [h0] at c1
    have HG := hid hg
    have HI := hid hi
    clear hr CS hw1 hg hi
    go_wp2_with fail
    refine CP.out.mono ?_
    rintro e w2 ⟨r, rfl, hr, hw2⟩
    obtain rfl : w = w2 := hw2.symm
    have HR0 := hid hr
    obtain ⟨g', ip, rfl, hg', hip⟩ := hr.ys HM.out
    obtain rfl := Df.same HG.out hg'
    have HIP := hid hip
    clear hr CP hw2 hg' hip
    go_wp2
    go_loopw [9] (fun r wr => ∃ (y : Int) (a : Option Addr), r = .pointer a ∧ SIs v L y a ∧ anc (abs L) p id = anc (abs L) y id ∧ wr = w) (fun r _ => ptM L r)
    case atStart => exact ⟨p, _, rfl, HR0.out, rfl, rfl⟩
    case round =>
     obtain ⟨y, a, rfl, hy, hanc, hwr⟩ := hrel
     obtain rfl : w = wr := hwr.symm
     clear hwr
     cases hgy : gt L y with
     | none =>
      obtain rfl := hy.no hgy
      have hans : anc (abs L) p id = false := by rw [hanc, anc_none (by rw [gt_abs, hgy]; rfl)]
      have hs0 : subE (abs L) id p = 0 := by rw [HSUB.out, hans]; rfl
      have HS0 := hid hs0
      clear hy hanc hgy
      have hne : p ≠ id := fun e => by
       rw [anc_some (s := sp.f) (by rw [gt_abs, HM.out]; rfl), e] at hans
       simp at hans
      obtain ⟨h1, k1⟩ := HD.out.setPar HI.out HG.out p
      have hi1 : (L.set i (id, ({ s with par := p } : Sr)))[i]? = some (id, { s with par := p }) := List.getElem?_set_self (List.getElem?_eq_some_iff.1 HI.out).1
      obtain ⟨h2, k2⟩ := h1.setSyn hi1 HG.out true
      rw [List.set_set] at h2
      have d1 : (w.setCell ⟨g, i * 33 + 1, none⟩ (.int .i64 p)).cell? ⟨g, i * 33 + 2, none⟩ = some (.bool s.syn) := h1.at_ hi1 HG.out (j := 2) (by omega)
      have f1 := HD.out.fz HG.out (i * 33 + 1)
      have f2 := h1.fz HG.out (i * 33 + 2)
      obtain ⟨L2, hL2⟩ : ∃ L2, L2 = L.set i (id, ({ s with par := p, syn := true } : Sr)) := ⟨_, rfl⟩
      rw [← hL2] at h2
      have hii : i ≠ ip := fun e => by
       have := HI.out
       rw [e, HIP.out] at this
       cases this
       exact hne rfl
      have hip2 : L2[ip]? = some (p, sp) := by rw [hL2, List.getElem?_set_ne hii]; exact HIP.out
      obtain ⟨W2, hW2⟩ : ∃ W2, W2 = (w.setCell ⟨g, i * 33 + 1, none⟩ (.int .i64 p)).setCell ⟨g, i * 33 + 2, none⟩ (.bool true) := ⟨_, rfl⟩
      have k12 := k1.trans k2 (fun k hk _ => hk)
      rw [← hW2] at h2 k12
      have hokp2 : sp.Ok W2 := h2.ok _ (Df.mem hip2)
      have hrz := rz_of_rdm (latS_ok hokp2)
      rw [un1_lat] at hrz
      have hln : (latS sp).n ≤ 1000 := by
       have := (latS_ok hokp2).len
       rw [latS_l] at this
       omega
      have HD2 := hid h2
      have HIP2 := hid hip2
      have HK12 := hid k12
      have HLT := hid (latest_any h2 hip2 HG.out)
      have HTP := hid (otopr_any _ _ _ _ id W2 hrz (by omega))
      have HBLK2 : Hid (∀ P ∈ q :: (v.ownBlock.toList ++ X), P < W2.heap.size) := fun P hP => Nat.lt_of_lt_of_le (HBLK.out P hP) k12.size
      have HX2 : Hid (∀ w' : World, W2.heap.size ≤ w'.heap.size → ∀ P ∈ X, P < w'.heap.size) := fun w' hw P hP => Nat.lt_of_lt_of_le (HX.out P hP) (Nat.le_trans k12.size hw)
      have HFIN : Hid (∀ (l l2 : Sl), l.l = sg (dr id (un1 (lat sp.f)) ++ [id]) → l2.l = put1 sp.pe.pl.l [id, 0, 0] → abs (L2.set ip (p, plR l2 (ordR l sp))) = subF (abs L) id p) := fun l l2 hl hl2 => by
       have hn2 : (keys L2).Nodup := by rw [hL2, ← st_set HNOD.out HI.out, keys_st]; exact HNOD.out
       have hgp2 : gt L2 p = some sp := by rw [hL2, ← st_set HNOD.out HI.out, gt_st, if_neg hne]; exact HM.out
       rw [← st_set hn2 hip2, abs_upd hgp2 (fun q => plcS [id, 0, 0] (ordS (sg (dr id (un1 (lat q)) ++ [id])) q)) (plR l2 (ordR l sp)) (by rw [plR_f (s := ordR l sp) (c := [id, 0, 0]) hl2, ordR_f, hl]), hL2, ← st_set HNOD.out HI.out, abs_upd HN.out (fun s => { s with par := p, syn := true }) { s with par := p, syn := true } rfl, subF, if_pos hs0]
      have HW2 := hid hW2
      clear h1 k1 hi1 h2 k2 k12 hrz hokp2 hip2 hii hne hans hs0 hW2 hL2
      go_upto_region 13 with fail
      rw [← HW2.out]
      clear d1 f1 f2 c1
      go_wp2_with fail
      refine HLT.out.mono ?_
      rintro e x1 ⟨rfl, hx1⟩
      obtain rfl : W2 = x1 := hx1.symm
      clear hx1
      go_wp2_with fail
      refine HTP.out.mono ?_
      rintro e x2 ⟨v2, rfl, ho2⟩
      obtain ⟨l, rfl, hl1, hl2, hl3⟩ := sl_of_owz ho2
      have HO := hid (order_any (HD2.out.on ho2.bel) HIP2.out HG.out l hl2 (far_new hl3 HBLK2.out))
      have HL1 := hid hl1
      have HB2 := hid ho2.bel
      clear ho2 hl1 hl2 hl3 HTP HLT
      go_wp2_with fail
      refine HO.out.mono ?_
      rintro e x3 ⟨rfl, hd3, hk3⟩
      have hip3 : (L2.set ip (p, ordR l sp))[ip]? = some (p, ordR l sp) := List.getElem?_set_self (List.getElem?_eq_some_iff.1 HIP2.out).1
      have HPL := hid (dplace_any hd3 (HX2.out x3 (Nat.le_trans HB2.out.size hk3.size)) hip3 HG.out (show sp.pe.pl.n ≤ 900000 by omega) id 0 0)
      have HK3 := hid ((HK12.out.trans (kp_of_below HB2.out [g]) (fun k hk _ => hk)).trans hk3 (fun k hk _ => hk))
      clear hd3 hk3 hip3 HO
      go_wp2_with fail
      refine HPL.out.mono ?_
      rintro e x4 ⟨rfl, l2, hl2, hd4, hk4⟩
      rw [List.set_set] at hd4
      have HE : Hid (RfR base X w q v (subE (abs L) id p) (subF (abs L) id p) (.returned (.int .i64 0)) x4) := ⟨by rw [HS0.out]; rfl, _, hd4, HFIN.out l l2 HL1.out hl2, kp_own HG.out (HK3.out.trans hk4 (fun k hk _ => hk))⟩
      clear hl2 hd4 hk4 HPL
      go_wp2
      go_ret
      exact HE.out
     | some t =>
      obtain ⟨g', iy, rfl, hg', hiy⟩ := hy.ys hgy
      obtain rfl := Df.same HG.out hg'
      have cy0 : w.cell? ⟨g, iy * 33, none⟩ = some (.int .i64 y) := HD.out.at_ hiy HG.out (j := 0) (by omega)
      have cy1 : w.cell? ⟨g, iy * 33 + 1, none⟩ = some (.int .i64 t.par) := HD.out.at_ hiy HG.out (j := 1) (by omega)
      have hga : gt (abs L) y = some t.f := by rw [gt_abs, hgy]; rfl
      have HAN := hid (anc_some hga id)
      have HANC := hid hanc
      have HPM := hid (ptM_at (g := g) hiy)
      have HDP := hid (dpt_lt HA.out hga)
      clear hy hanc hgy hg' hga
      cases hyi : (y == id)
      ·rw [hyi, Bool.false_or] at HAN
       go_wp2_with fail
       refine (HGA.out t.par).mono ?_
       rintro e w5 ⟨r, rfl, hr5, hw5⟩
       obtain rfl : w = w5 := hw5.symm
       clear hw5
       have HR5 := hid hr5
       have HIY := hid hiy
       clear hr5 hiy
       go_wp2
       go_roundw
       case rel => exact ⟨t.par, r, rfl, HR5.out, by rw [HANC.out, HAN.out]; rfl, trivial⟩
       case measure =>
        rw [HPM.out]
        have hdp := HDP.out
        rw [show t.f.par = t.par from rfl] at hdp
        cases hgp : gt L t.par with
        | none =>
         rw [HR5.out.no hgp]
         show 0 < dpt (abs L) y
         omega
        | some tp =>
         obtain ⟨g5, i5, e5, _, hi5⟩ := HR5.out.ys hgp
         rw [e5, ptM_at hi5]
         exact hdp
      ·have hs1 : subE (abs L) id p = 11 := by rw [HSUB.out, HANC.out, HAN.out, hyi]; rfl
       have HE := hid (HNO.out 11 hs1 (by decide))
       clear hs1 hiy
       go_wp2
       go_ret
       exact HE.out
   ·have HE := hid (HNO.out 10 (by rw [hsub, if_pos h0]) (by decide))
    have e0 : (s.par != 0) = true := by simpa using h0
    clear h hX hI hZ hs hp hsub HNO
    go_enter Tryz.func39, Tryz.ntmps39
    go_wp2_with fail
    refine CS.out.mono ?_
    rintro e w1 ⟨r, rfl, hr, hw1⟩
    obtain rfl : w = w1 := hw1.symm
    obtain ⟨g, i, rfl, hg, hi⟩ := hr.ys HN.out
    have c1 : w.cell? ⟨g, i * 33 + 1, none⟩ = some (.int .i64 s.par) := HD.out.at_ hi hg (by omega)
    clear hr CS hw1 hg hi
    go_wp2_with fail
    refine CP.out.mono ?_
    rintro e w2 ⟨r, rfl, hr, hw2⟩
    obtain rfl : w = w2 := hw2.symm
    obtain ⟨g', ip, rfl, hg', hip⟩ := hr.ys HM.out
    clear hr CP hw2 hg' hip
    go_wp2
    go_ret
    exact HE.out
end
section
section
variable {P : Program} (w : World)
end
end
end Go.Proofs.YtkjempffidndeaaGreatDoor
