/- Lemmas that the proof leans on. -/
import Derived.Test.YtdgknofpkafppaaGreatDoorB25
import Derived.Shelf.SlIterI.Nil
import Derived.Shelf.SortM.Plain
import Derived.Shelf.SortM.SortNone
import Derived.Shelf.SlicesG.CompactI
namespace Go.Proofs.YtdgknofpkafppaaGreatDoor
open Go Go.RowKit
set_option maxRecDepth 100000
set_option maxHeartbeats 2000000
section
variable {base B : Nat} {w u w' : World} {p m : Nat} {L L' : Po} {F : Fo} {id : Int} {es : List Addr} {e : Ps}
theorem mrg_sq0 (q : Sq) : mrg q sq0 = q := by
 cases q
 simp [mrg, sq0, puts]
def sho (x : Sr → Sx) (L : Po) (id : Int) : Sq := match gt L id with
 | none => sq0
 | some e => (x e.s).q
theorem fshow_any (hE : Fe w es) (h : Pf base w p m L) (id : Int) (hi : Bt id) (x : Sr → Sx) (g : Nat) (eg : ∀ args w, (callFunc g args).run Tryz.prog w = .ok (.enter g args) w) (hok : ∀ e, gt L id = some e → (x e.s).Ok w ∧ (x e.s).Len 1000)
  (hg : ∀ e, gt L id = some e → ∀ W, Below w.heap.size w W → Calls Tryz.prog g (#[.pointer (some ⟨e.g, 0, none⟩)] ++ #[]) W fun e' w' => e' = .returned (.agg #[.bool (x e.s).at_, .int .i64 (x e.s).buf, .slice (x e.s).dm.a (x e.s).dm.n (x e.s).dm.c, .slice (x e.s).fr.a (x e.s).fr.n (x e.s).fr.c, .bool (x e.s).inp, .bool (x e.s).all, .slice (x e.s).rg.a (x e.s).rg.n (x e.s).rg.c, .bool (x e.s).ord, .slice (x e.s).od.a (x e.s).od.n (x e.s).od.c, .slice (x e.s).pl.a (x e.s).pl.n (x e.s).pl.c]) ∧ Below W.heap.size W w') :
  Calls Tryz.prog 56 #[.pointer (some ⟨p, 0, none⟩), .int .i64 id, .func (.func g) #[] #[]] w (Rst w (sho x L id)) := by
 have hb0 := bel_new w (.cells #[.bool sx0.at_, .int .i64 sx0.buf, .slice sx0.dm.a sx0.dm.n sx0.dm.c, .slice sx0.fr.a sx0.fr.n sx0.fr.c, .bool sx0.inp, .bool sx0.all, .slice sx0.rg.a sx0.rg.n sx0.rg.c, .bool sx0.ord, .slice sx0.od.a sx0.od.n sx0.od.c, .slice sx0.pl.a sx0.pl.n sx0.pl.c] 43)
 have hz := bs_new w sx0
 have HF := hid (ffind_any (hE.on hb0) (h.on hb0) id hi)
 have HZ := hid hz
 have HB := hid hb0
 cases hq : gt L id with
 | none =>
  have HS : Hid (pto L id = none ∧ hasE (pab L) id = 5) := ⟨by rw [pto, hq]; rfl, by rw [hasE, gt_pab, hq]; rfl⟩
  have HV : Hid (sho x L id = sq0) := by rw [Hid, sho, hq]
  rw [HS.out.1, HS.out.2] at HF
  rw [HV.out]
  clear hq h hE HS hok hg hb0 hz HV
  go_enter Tryz.func56, Tryz.ntmps56
  go_wp2_with fail
  refine HF.out.mono ?_
  rintro e' w1 ⟨rfl, q1, hw1⟩
  have hb1 : Below w.heap.size w w1 := by rw [hw1]; exact below_drewN HB.out q1
  have HZ1 : Hid (Bs w1 w.heap.size sx0) := by rw [Hid, hw1]; exact HZ.out.on (below_drewN (Below.refl _ _) q1)
  have HB1 := hid hb1
  have hlt := HZ1.out.lt
  obtain ⟨ra, rb, rc, rd, re, rf, rg, rh, ri, rj⟩ := HZ1.out.all
  have fz := HZ1.out.fz
  rw [ptv_none, erv_succ]
  clear hw1 hb1 HF HZ HB
  simp only [sx0, sl0] at ra rb rc rd re rf rg rh ri rj
  go_wp2
  refine bodyPost_ret (results_cell_row rfl _ _ w.heap.size _ _ _ _ rfl (HZ1.out.stz sx0).bk.obj Tryz.underlying43 rfl infoSt) rfl ?_
  exact ⟨sx0, rfl, sx0_ok _, ⟨(fun y e => by cases e), (fun y e => by cases e), (fun y e => by cases e), (fun y e => by cases e), (fun y e => by cases e)⟩, rfl, below_stz HB1.out (Nat.le_refl _) sx0⟩
 | some e =>
  have HS : Hid (pto L id = some e.g ∧ hasE (pab L) id = 0) := ⟨by rw [pto, hq]; rfl, by rw [hasE, gt_pab, hq]; rfl⟩
  have HV : Hid (sho x L id = (x e.s).q) := by rw [Hid, sho, hq]
  have HG := hid (hg e hq)
  obtain ⟨ok1, l1⟩ := hok e hq
  have HOK := hid ok1
  have HL := hid l1
  rw [HS.out.1, HS.out.2] at HF
  rw [HV.out]
  generalize x e.s = y at *
  clear hq h hE HS hok hg hb0 hz HV ok1 l1
  go_enter Tryz.func56, Tryz.ntmps56
  go_wp2_with fail
  refine HF.out.mono ?_
  rintro e' w1 ⟨rfl, q1, hw1⟩
  have hb1 : Below w.heap.size w w1 := by rw [hw1]; exact below_drewN HB.out q1
  have HZ1 : Hid (Bs w1 w.heap.size sx0) := by rw [Hid, hw1]; exact HZ.out.on (below_drewN (Below.refl _ _) q1)
  have HB1 := hid hb1
  rw [ptv_some, erv0]
  clear hw1 hb1 HF HZ HB
  go_wp2_with fail
  refine (HG.out _ HB1.out).mono ?_
  rintro e' w2 ⟨rfl, hb2⟩
  have HB2 := hid (Below.on HB1.out hb2)
  have HZ2 := hid (HZ1.out.on hb2)
  have CM := hid (merge_any y sx0 w2 (HOK.out.on HB2.out) (sx0_ok w2) HL.out ⟨by simp [sx0, sl0], by simp [sx0, sl0], by simp [sx0, sl0], by simp [sx0, sl0], by simp [sx0, sl0]⟩)
  simp only [sx0_q, mrg_sq0] at CM
  clear hb2 HG HB1 HZ1
  go_wp2_with fail
  refine CM.out.mono ?_
  rintro e' w3 ⟨r, rfl, okr, nwr, hqr, hbr⟩
  have HZ3 := hid (HZ2.out.on hbr)
  have hlt := HZ3.out.lt
  obtain ⟨ra, rb, rc, rd, re, rf, rg, rh, ri, rj⟩ := HZ3.out.all
  have fz := HZ3.out.fz
  have hw2 : w.heap.size < w2.heap.size := HZ2.out.lt
  have HX : Hid (r.Ok (stz w3 w.heap.size r) ∧ r.New w.heap.size ∧ r.q = y.q ∧ Below w.heap.size w (stz w3 w.heap.size r)) := ⟨okr.stz nwr hw2 r, nwr.low (Nat.le_of_lt hw2), hqr, below_stz (Below.on HB2.out hbr) (Nat.le_refl _) r⟩
  clear okr nwr hqr hbr CM HZ2 HB2 hw2
  simp only [sx0, sl0] at ra rb rc rd re rf rg rh ri rj
  go_wp2
  refine bodyPost_ret (results_cell_row rfl _ _ w.heap.size _ _ _ _ rfl (HZ3.out.stz r).bk.obj Tryz.underlying43 rfl infoSt) rfl ?_
  exact ⟨r, rfl, HX.out⟩
theorem fpending1_any (h : Pf base w p m L) (he : gt L id = some e) (u : World) (hu : Below w.heap.size w u) :
  Calls Tryz.prog 96 (#[.pointer (some ⟨e.g, 0, none⟩)] ++ #[]) u fun e' w' => e' = .returned (.agg #[.bool e.s.pe.at_, .int .i64 e.s.pe.buf, .slice e.s.pe.dm.a e.s.pe.dm.n e.s.pe.dm.c, .slice e.s.pe.fr.a e.s.pe.fr.n e.s.pe.fr.c, .bool e.s.pe.inp, .bool e.s.pe.all, .slice e.s.pe.rg.a e.s.pe.rg.n e.s.pe.rg.c, .bool e.s.pe.ord, .slice e.s.pe.od.a e.s.pe.od.n e.s.pe.od.c, .slice e.s.pe.pl.a e.s.pe.pl.n e.s.pe.pl.c]) ∧ Below u.heap.size u w' := by
 have hb0 := bel_new u (.cells #[.bool sx0.at_, .int .i64 sx0.buf, .slice sx0.dm.a sx0.dm.n sx0.dm.c, .slice sx0.fr.a sx0.fr.n sx0.fr.c, .bool sx0.inp, .bool sx0.all, .slice sx0.rg.a sx0.rg.n sx0.rg.c, .bool sx0.ord, .slice sx0.od.a sx0.od.n sx0.od.c, .slice sx0.pl.a sx0.pl.n sx0.pl.c] 43)
 have h1 := (h.on hu).on hb0
 have HZ := hid (bs_new u sx0)
 have HB := hid hb0
 obtain ⟨c0, c1, c2, c3, c4, c5, c6, c7, c8, c9⟩ := (h1.cells he).1
 have l1 := (h1.wlt he (mem_wb.2 (.inl rfl))).2
 obtain ⟨ra, rb, rc, rd, re, rf, rg, rh, ri, rj⟩ := HZ.out.all
 have fz := HZ.out.fz
 have hlt := HZ.out.lt
 clear h he hu hb0 h1
 simp only [sx0, sl0] at ra rb rc rd re rf rg rh ri rj c0 c1 c2 c3 c4 c5 c6 c7 c8 c9 fz hlt l1
 go_enter Tryz.func96, Tryz.ntmps96
 go_wp2
 refine bodyPost_ret (results_cell_row rfl _ _ u.heap.size _ _ _ _ rfl (bs_new u e.s.pe).bk.obj Tryz.underlying43 rfl infoSt) rfl ?_
 exact ⟨rfl, bel_new u _⟩
theorem fpending_any {mm : Nat} (hm : mm ≤ 900) (hE : Fe w es) (h : Pf base w p m L) (hF : Fok mm (pab L)) (id : Int) (hi : Bt id) :
  Calls Tryz.prog 48 #[.pointer (some ⟨p, 0, none⟩), .int .i64 id] w (Rst w (sho Sr.pe L id)) := by
 have hb0 := bel_new w (.cells #[.bool sx0.at_, .int .i64 sx0.buf, .slice sx0.dm.a sx0.dm.n sx0.dm.c, .slice sx0.fr.a sx0.fr.n sx0.fr.c, .bool sx0.inp, .bool sx0.all, .slice sx0.rg.a sx0.rg.n sx0.rg.c, .bool sx0.ord, .slice sx0.od.a sx0.od.n sx0.od.c, .slice sx0.pl.a sx0.pl.n sx0.pl.c] 43)
 have CS := hid (fshow_any (hE.on hb0) (h.on hb0) id hi Sr.pe 96 (enters_of Tryz.func96 (by kernel_rfl) rfl) (fun e he => ⟨((h.on hb0).rows id e he).ok.pe, (hF.len hm h he).1⟩) (fun e he W hW => fpending1_any (h.on hb0) he W hW))
 have HZ := hid (bs_new w sx0)
 have HB := hid hb0
 clear hE h hF hb0
 go_enter Tryz.func48, Tryz.ntmps48
 go_wp2_with fail
 refine CS.out.mono ?_
 rintro e' w3 ⟨r, rfl, okr, nwr, hqr, hbr⟩
 have HZ3 := hid (HZ.out.on hbr)
 have hlt := HZ3.out.lt
 obtain ⟨ra, rb, rc, rd, re, rf, rg, rh, ri, rj⟩ := HZ3.out.all
 have fz := HZ3.out.fz
 rw [size_new] at nwr
 have HX : Hid (r.Ok (stz w3 w.heap.size r) ∧ r.New w.heap.size ∧ r.q = sho Sr.pe L id ∧ Below w.heap.size w (stz w3 w.heap.size r)) := ⟨okr.stz nwr (by omega) r, nwr.low (by omega), hqr, below_stz (Below.on HB.out hbr) (Nat.le_refl _) r⟩
 clear okr nwr hqr hbr CS HZ HB
 simp only [sx0, sl0] at ra rb rc rd re rf rg rh ri rj
 go_wp2
 refine bodyPost_ret (results_cell_row rfl _ _ w.heap.size _ _ _ _ rfl (HZ3.out.stz r).bk.obj Tryz.underlying43 rfl infoSt) rfl ?_
 exact ⟨r, rfl, HX.out⟩
theorem fcached1_any (h : Pf base w p m L) (he : gt L id = some e) (u : World) (hu : Below w.heap.size w u) :
  Calls Tryz.prog 97 (#[.pointer (some ⟨e.g, 0, none⟩)] ++ #[]) u fun e' w' => e' = .returned (.agg #[.bool e.s.ca.at_, .int .i64 e.s.ca.buf, .slice e.s.ca.dm.a e.s.ca.dm.n e.s.ca.dm.c, .slice e.s.ca.fr.a e.s.ca.fr.n e.s.ca.fr.c, .bool e.s.ca.inp, .bool e.s.ca.all, .slice e.s.ca.rg.a e.s.ca.rg.n e.s.ca.rg.c, .bool e.s.ca.ord, .slice e.s.ca.od.a e.s.ca.od.n e.s.ca.od.c, .slice e.s.ca.pl.a e.s.ca.pl.n e.s.ca.pl.c]) ∧ Below u.heap.size u w' := by
 have hb0 := bel_new u (.cells #[.bool sx0.at_, .int .i64 sx0.buf, .slice sx0.dm.a sx0.dm.n sx0.dm.c, .slice sx0.fr.a sx0.fr.n sx0.fr.c, .bool sx0.inp, .bool sx0.all, .slice sx0.rg.a sx0.rg.n sx0.rg.c, .bool sx0.ord, .slice sx0.od.a sx0.od.n sx0.od.c, .slice sx0.pl.a sx0.pl.n sx0.pl.c] 43)
 have h1 := (h.on hu).on hb0
 have HZ := hid (bs_new u sx0)
 have HB := hid hb0
 obtain ⟨c0, c1, c2, c3, c4, c5, c6, c7, c8, c9⟩ := (h1.cells he).2.1
 have l1 := (h1.wlt he (mem_wb.2 (.inl rfl))).2
 obtain ⟨ra, rb, rc, rd, re, rf, rg, rh, ri, rj⟩ := HZ.out.all
 have fz := HZ.out.fz
 have hlt := HZ.out.lt
 clear h he hu hb0 h1
 simp only [sx0, sl0] at ra rb rc rd re rf rg rh ri rj c0 c1 c2 c3 c4 c5 c6 c7 c8 c9 fz hlt l1
 go_enter Tryz.func97, Tryz.ntmps97
 go_wp2
 refine bodyPost_ret (results_cell_row rfl _ _ u.heap.size _ _ _ _ rfl (bs_new u e.s.ca).bk.obj Tryz.underlying43 rfl infoSt) rfl ?_
 exact ⟨rfl, bel_new u _⟩
theorem fcached_any {mm : Nat} (hm : mm ≤ 900) (hE : Fe w es) (h : Pf base w p m L) (hF : Fok mm (pab L)) (id : Int) (hi : Bt id) :
  Calls Tryz.prog 49 #[.pointer (some ⟨p, 0, none⟩), .int .i64 id] w (Rst w (sho Sr.ca L id)) := by
 have hb0 := bel_new w (.cells #[.bool sx0.at_, .int .i64 sx0.buf, .slice sx0.dm.a sx0.dm.n sx0.dm.c, .slice sx0.fr.a sx0.fr.n sx0.fr.c, .bool sx0.inp, .bool sx0.all, .slice sx0.rg.a sx0.rg.n sx0.rg.c, .bool sx0.ord, .slice sx0.od.a sx0.od.n sx0.od.c, .slice sx0.pl.a sx0.pl.n sx0.pl.c] 43)
 have CS := hid (fshow_any (hE.on hb0) (h.on hb0) id hi Sr.ca 97 (enters_of Tryz.func97 (by kernel_rfl) rfl) (fun e he => ⟨((h.on hb0).rows id e he).ok.ca, (hF.len hm h he).2.1⟩) (fun e he W hW => fcached1_any (h.on hb0) he W hW))
 have HZ := hid (bs_new w sx0)
 have HB := hid hb0
 clear hE h hF hb0
 go_enter Tryz.func49, Tryz.ntmps49
 go_wp2_with fail
 refine CS.out.mono ?_
 rintro e' w3 ⟨r, rfl, okr, nwr, hqr, hbr⟩
 have HZ3 := hid (HZ.out.on hbr)
 have hlt := HZ3.out.lt
 obtain ⟨ra, rb, rc, rd, re, rf, rg, rh, ri, rj⟩ := HZ3.out.all
 have fz := HZ3.out.fz
 rw [size_new] at nwr
 have HX : Hid (r.Ok (stz w3 w.heap.size r) ∧ r.New w.heap.size ∧ r.q = sho Sr.ca L id ∧ Below w.heap.size w (stz w3 w.heap.size r)) := ⟨okr.stz nwr (by omega) r, nwr.low (by omega), hqr, below_stz (Below.on HB.out hbr) (Nat.le_refl _) r⟩
 clear okr nwr hqr hbr CS HZ HB
 simp only [sx0, sl0] at ra rb rc rd re rf rg rh ri rj
 go_wp2
 refine bodyPost_ret (results_cell_row rfl _ _ w.heap.size _ _ _ _ rfl (HZ3.out.stz r).bk.obj Tryz.underlying43 rfl infoSt) rfl ?_
 exact ⟨r, rfl, HX.out⟩
theorem fcurrent1_any (h : Pf base w p m L) (he : gt L id = some e) (u : World) (hu : Below w.heap.size w u) :
  Calls Tryz.prog 57 (#[.pointer (some ⟨e.g, 0, none⟩)] ++ #[]) u fun e' w' => e' = .returned (.agg #[.bool e.s.no.at_, .int .i64 e.s.no.buf, .slice e.s.no.dm.a e.s.no.dm.n e.s.no.dm.c, .slice e.s.no.fr.a e.s.no.fr.n e.s.no.fr.c, .bool e.s.no.inp, .bool e.s.no.all, .slice e.s.no.rg.a e.s.no.rg.n e.s.no.rg.c, .bool e.s.no.ord, .slice e.s.no.od.a e.s.no.od.n e.s.no.od.c, .slice e.s.no.pl.a e.s.no.pl.n e.s.no.pl.c]) ∧ Below u.heap.size u w' := by
 have hb0 := bel_new u (.cells #[.bool sx0.at_, .int .i64 sx0.buf, .slice sx0.dm.a sx0.dm.n sx0.dm.c, .slice sx0.fr.a sx0.fr.n sx0.fr.c, .bool sx0.inp, .bool sx0.all, .slice sx0.rg.a sx0.rg.n sx0.rg.c, .bool sx0.ord, .slice sx0.od.a sx0.od.n sx0.od.c, .slice sx0.pl.a sx0.pl.n sx0.pl.c] 43)
 have h1 := (h.on hu).on hb0
 have HZ := hid (bs_new u sx0)
 have HB := hid hb0
 obtain ⟨c0, c1, c2, c3, c4, c5, c6, c7, c8, c9⟩ := (h1.cells he).2.2
 have l1 := (h1.wlt he (mem_wb.2 (.inl rfl))).2
 obtain ⟨ra, rb, rc, rd, re, rf, rg, rh, ri, rj⟩ := HZ.out.all
 have fz := HZ.out.fz
 have hlt := HZ.out.lt
 clear h he hu hb0 h1
 simp only [sx0, sl0] at ra rb rc rd re rf rg rh ri rj c0 c1 c2 c3 c4 c5 c6 c7 c8 c9 fz hlt l1
 go_enter Tryz.func57, Tryz.ntmps57
 go_wp2
 refine bodyPost_ret (results_cell_row rfl _ _ u.heap.size _ _ _ _ rfl (bs_new u e.s.no).bk.obj Tryz.underlying43 rfl infoSt) rfl ?_
 exact ⟨rfl, bel_new u _⟩
theorem fcurrent_any {mm : Nat} (hm : mm ≤ 900) (hE : Fe w es) (h : Pf base w p m L) (hF : Fok mm (pab L)) (id : Int) (hi : Bt id) :
  Calls Tryz.prog 11 #[.pointer (some ⟨p, 0, none⟩), .int .i64 id] w (Rst w (sho Sr.no L id)) := by
 have hb0 := bel_new w (.cells #[.bool sx0.at_, .int .i64 sx0.buf, .slice sx0.dm.a sx0.dm.n sx0.dm.c, .slice sx0.fr.a sx0.fr.n sx0.fr.c, .bool sx0.inp, .bool sx0.all, .slice sx0.rg.a sx0.rg.n sx0.rg.c, .bool sx0.ord, .slice sx0.od.a sx0.od.n sx0.od.c, .slice sx0.pl.a sx0.pl.n sx0.pl.c] 43)
 have CS := hid (fshow_any (hE.on hb0) (h.on hb0) id hi Sr.no 57 (enters_of Tryz.func57 (by kernel_rfl) rfl) (fun e he => ⟨((h.on hb0).rows id e he).ok.no, (hF.len hm h he).2.2⟩) (fun e he W hW => fcurrent1_any (h.on hb0) he W hW))
 have HZ := hid (bs_new w sx0)
 have HB := hid hb0
 clear hE h hF hb0
 go_enter Tryz.func11, Tryz.ntmps11
 go_wp2_with fail
 refine CS.out.mono ?_
 rintro e' w3 ⟨r, rfl, okr, nwr, hqr, hbr⟩
 have HZ3 := hid (HZ.out.on hbr)
 have hlt := HZ3.out.lt
 obtain ⟨ra, rb, rc, rd, re, rf, rg, rh, ri, rj⟩ := HZ3.out.all
 have fz := HZ3.out.fz
 rw [size_new] at nwr
 have HX : Hid (r.Ok (stz w3 w.heap.size r) ∧ r.New w.heap.size ∧ r.q = sho Sr.no L id ∧ Below w.heap.size w (stz w3 w.heap.size r)) := ⟨okr.stz nwr (by omega) r, nwr.low (by omega), hqr, below_stz (Below.on HB.out hbr) (Nat.le_refl _) r⟩
 clear okr nwr hqr hbr CS HZ HB
 simp only [sx0, sl0] at ra rb rc rd re rf rg rh ri rj
 go_wp2
 refine bodyPost_ret (results_cell_row rfl _ _ w.heap.size _ _ _ _ rfl (HZ3.out.stz r).bk.obj Tryz.underlying43 rfl infoSt) rfl ?_
 exact ⟨r, rfl, HX.out⟩
theorem ftake_any (hE : Fe w es) (h : Pf base w p m L) (id : Int) (hi : Bt id) :
  Calls Tryz.prog 39 #[.pointer (some ⟨p, 0, none⟩), .int .i64 id] w fun e' w' => ∃ l : Sl, e' = .returned (.slice l.a l.n l.c) ∧ l.l = takL (pab L) id ∧ RdM 1 w' l.a l.n l.c l.l ∧ ∃ L', PfR base w p m L (upd (pab L) id takS) w' L' := by
 have HF := hid (ffind_any hE h id hi)
 cases hq : gt L id with
 | none =>
  have HS : Hid (pto L id = none ∧ hasE (pab L) id = 5) := ⟨by rw [pto, hq]; rfl, by rw [hasE, gt_pab, hq]; rfl⟩
  have HX : Hid (∀ q, ∃ l : Sl, Ending.returned (.slice none 0 0) = .returned (.slice l.a l.n l.c) ∧ l.l = takL (pab L) id ∧ RdM 1 (w.drewN q) l.a l.n l.c l.l ∧ ∃ L', PfR base w p m L (upd (pab L) id takS) (w.drewN q) L') := fun q => ⟨sl0, rfl, by rw [takL, gt_pab, hq]; rfl, RdM.nil _ _, L, (PfR.refl h (below_drewN (Below.refl _ _) q)).as (by rw [upd, gt_pab, hq]; rfl)⟩
  rw [HS.out.1, HS.out.2] at HF
  clear hq h hE HS
  go_enter Tryz.func39, Tryz.ntmps39
  go_wp2_with fail
  refine HF.out.mono ?_
  rintro e' w1 ⟨rfl, q1, rfl⟩
  have HY := hid (HX.out q1)
  rw [ptv_none, erv_succ]
  go_wp2
  go_ret
  exact HY.out
 | some e =>
  have HS : Hid (pto L id = some e.g ∧ hasE (pab L) id = 0) := ⟨by rw [pto, hq]; rfl, by rw [hasE, gt_pab, hq]; rfl⟩
  have HX : Hid (∀ q, ∃ l : Sl, Ending.returned (.slice e.s.no.fr.a e.s.no.fr.n e.s.no.fr.c) = .returned (.slice l.a l.n l.c) ∧ l.l = takL (pab L) id ∧ RdM 1 ((w.drewN q).setCell ⟨e.g, 23, none⟩ (.slice none 0 0)) l.a l.n l.c l.l ∧ ∃ L', PfR base w p m L (upd (pab L) id takS) ((w.drewN q).setCell ⟨e.g, 23, none⟩ (.slice none 0 0)) L') := fun q => ⟨e.s.no.fr, rfl, by rw [takL, gt_pab, hq]; rfl, by
   have h1 := ((h.drewN q).rows id e hq).ok.no.fr
   exact rd_far h1 (kp1 _ _ _ _) (fun b hb => by
    simp only [List.mem_cons, List.not_mem_nil, or_false] at hb
    rw [hb]
    exact ((h.sep id e hq).2 e.g (mem_wb.2 (.inl rfl))).2.2.2 _ (by simp [ros])), _, h.putTak hq (below_drewN (Below.refl _ _) q)⟩
  have c1 : w.cell? ⟨e.g, 23, none⟩ = some (.slice e.s.no.fr.a e.s.no.fr.n e.s.no.fr.c) := h.cell hq
  have f1 := h.fz hq
  have hlt := (h.wlt hq (mem_wb.2 (.inl rfl))).2
  rw [HS.out.1, HS.out.2] at HF
  clear hq h hE HS
  go_enter Tryz.func39, Tryz.ntmps39
  go_wp2_with fail
  refine HF.out.mono ?_
  rintro e' w1 ⟨rfl, q1, rfl⟩
  have HY := hid (HX.out q1)
  rw [ptv_some, erv0]
  go_wp2
  go_ret
  exact HY.out
end
section
open Go Go.RowKit Go.Maps Go.Sort Go.Shelf
def keysA_ren : Go.Shelf.Ren := ⟨fun | 7 => 95 | 10 => 123 | n => n, fun | 23 => 56 | 26 => 3 | 3 => 76 | 28 => 111 | 0 => 0 | 27 => 110 | 33 => 74 | 4 => 4 | n => n, fun | n => n⟩
theorem keysA : Go.Proofs.SlLaysZI.n7 Tryz.prog keysA_ren := {
 mixed := by kernel_rfl
 f7 := ⟨Tryz.f95.name, by decide, Tryz.func95.trans (congrArg some (by kernel_rfl))⟩
 f10 := ⟨Tryz.f123.name, by decide, Tryz.func123.trans (congrArg some (by kernel_rfl))⟩
 t0 := Tryz.underlying0
 a0 := Tryz.isAgg0
 z0 := Tryz.sizeOf0
 v0 := Tryz.zeroValue0
 t4 := Tryz.underlying4
 a4 := Tryz.isAgg4
 z4 := Tryz.sizeOf4
 v4 := Tryz.zeroValue4
 t23 := Tryz.underlying56
 a23 := Tryz.isAgg56
 z23 := Tryz.sizeOf56
 v23 := Tryz.zeroValue56
 t26 := Tryz.underlying3
 a26 := Tryz.isAgg3
 z26 := Tryz.sizeOf3
 v26 := Tryz.zeroValue3
 t27 := Tryz.underlying110
 a27 := Tryz.isAgg110
 z27 := Tryz.sizeOf110
 v27 := Tryz.zeroValue110
 t28 := Tryz.underlying111
 a28 := Tryz.isAgg111
 z28 := Tryz.sizeOf111
 v28 := Tryz.zeroValue111
 t33 := Tryz.underlying74
 a33 := Tryz.isAgg74
 z33 := Tryz.sizeOf74
 v33 := Tryz.zeroValue74 }
def sortedA_ren : Go.Shelf.Ren := ⟨fun | 6 => 94 | 8 => 122 | 9 => 54 | 11 => 143 | 13 => 101 | 12 => 100 | 23 => 136 | 24 => 137 | 14 => 127 | 15 => 128 | 16 => 129 | 17 => 130 | 18 => 131 | 19 => 132 | 20 => 133 | 21 => 134 | 22 => 135 | 25 => 144 | 26 => 145 | 27 => 146 | 28 => 147 | 29 => 148 | 30 => 149 | 31 => 151 | n => n, fun | 26 => 3 | 28 => 111 | 24 => 40 | 0 => 0 | 3 => 3 | 37 => 118 | 48 => 144 | 50 => 146 | 4 => 4 | 40 => 137 | 39 => 136 | 45 => 141 | 5 => 5 | 9 => 9 | 51 => 166 | 55 => 170 | 57 => 173 | 58 => 174 | 33 => 74 | n => n, fun | n => n⟩
theorem sortedA : Go.Proofs.SlLaysZI.n6 Tryz.prog sortedA_ren := {
 mixed := by kernel_rfl
 f6 := ⟨Tryz.f94.name, by decide, Tryz.func94.trans (congrArg some (by kernel_rfl))⟩
 f8 := ⟨Tryz.f122.name, by decide, Tryz.func122.trans (congrArg some (by kernel_rfl))⟩
 f11 := ⟨Tryz.f143.name, by decide, Tryz.func143.trans (congrArg some (by kernel_rfl))⟩
 t0 := Tryz.underlying0
 a0 := Tryz.isAgg0
 z0 := Tryz.sizeOf0
 v0 := Tryz.zeroValue0
 t24 := Tryz.underlying40
 a24 := Tryz.isAgg40
 z24 := Tryz.sizeOf40
 v24 := Tryz.zeroValue40
 t26 := Tryz.underlying3
 a26 := Tryz.isAgg3
 z26 := Tryz.sizeOf3
 v26 := Tryz.zeroValue3
 t28 := Tryz.underlying111
 a28 := Tryz.isAgg111
 z28 := Tryz.sizeOf111
 v28 := Tryz.zeroValue111
 i26 := by kernel_rfl }
def sortA_ren : Go.Shelf.Ren := ⟨fun | 5 => 54 | 8 => 101 | 7 => 100 | 19 => 136 | 20 => 137 | 10 => 127 | 11 => 128 | 12 => 129 | 13 => 130 | 14 => 131 | 15 => 132 | 16 => 133 | 17 => 134 | 18 => 135 | 30 => 144 | 31 => 145 | 32 => 146 | 33 => 147 | 34 => 148 | 35 => 149 | 40 => 151 | n => n, fun | 23 => 40 | 25 => 3 | 3 => 3 | 32 => 118 | 22 => 40 | 0 => 0 | 44 => 144 | 46 => 146 | 4 => 4 | 36 => 137 | 35 => 136 | 41 => 141 | 5 => 5 | 9 => 9 | 53 => 166 | 57 => 170 | 63 => 173 | 64 => 174 | n => n, fun | n => n⟩
theorem sortA : Go.Proofs.SlLaysM.n5 Tryz.prog sortA_ren := {
 mixed := by kernel_rfl
 f5 := ⟨Tryz.f54.name, by decide, Tryz.func54.trans (congrArg some (by kernel_rfl))⟩
 f7 := ⟨Tryz.f100.name, by decide, Tryz.func100.trans (congrArg some (by kernel_rfl))⟩
 f8 := Tryz.func101.trans (congrArg some (by kernel_rfl))
 f10 := ⟨Tryz.f127.name, by decide, Tryz.func127.trans (congrArg some (by kernel_rfl))⟩
 f11 := ⟨Tryz.f128.name, by decide, Tryz.func128.trans (congrArg some (by kernel_rfl))⟩
 f12 := ⟨Tryz.f129.name, by decide, Tryz.func129.trans (congrArg some (by kernel_rfl))⟩
 f13 := ⟨Tryz.f130.name, by decide, Tryz.func130.trans (congrArg some (by kernel_rfl))⟩
 f14 := ⟨Tryz.f131.name, by decide, Tryz.func131.trans (congrArg some (by kernel_rfl))⟩
 f15 := ⟨Tryz.f132.name, by decide, Tryz.func132.trans (congrArg some (by kernel_rfl))⟩
 f16 := ⟨Tryz.f133.name, by decide, Tryz.func133.trans (congrArg some (by kernel_rfl))⟩
 f17 := ⟨Tryz.f134.name, by decide, Tryz.func134.trans (congrArg some (by kernel_rfl))⟩
 f18 := ⟨Tryz.f135.name, by decide, Tryz.func135.trans (congrArg some (by kernel_rfl))⟩
 f19 := Tryz.func136.trans (congrArg some (by kernel_rfl))
 f20 := Tryz.func137.trans (congrArg some (by kernel_rfl))
 f30 := ⟨Tryz.f144.name, by decide, Tryz.func144.trans (congrArg some (by kernel_rfl))⟩
 f31 := Tryz.func145.trans (congrArg some (by kernel_rfl))
 f32 := Tryz.func146.trans (congrArg some (by kernel_rfl))
 f33 := ⟨Tryz.f147.name, by decide, Tryz.func147.trans (congrArg some (by kernel_rfl))⟩
 f34 := ⟨Tryz.f148.name, by decide, Tryz.func148.trans (congrArg some (by kernel_rfl))⟩
 f35 := ⟨Tryz.f149.name, by decide, Tryz.func149.trans (congrArg some (by kernel_rfl))⟩
 f40 := ⟨Tryz.f151.name, by decide, Tryz.func151.trans (congrArg some (by kernel_rfl))⟩
 t0 := Tryz.underlying0
 a0 := Tryz.isAgg0
 z0 := Tryz.sizeOf0
 v0 := Tryz.zeroValue0
 t3 := Tryz.underlying3
 a3 := Tryz.isAgg3
 z3 := Tryz.sizeOf3
 v3 := Tryz.zeroValue3
 t4 := Tryz.underlying4
 a4 := Tryz.isAgg4
 z4 := Tryz.sizeOf4
 v4 := Tryz.zeroValue4
 t5 := Tryz.underlying5
 a5 := Tryz.isAgg5
 z5 := Tryz.sizeOf5
 v5 := Tryz.zeroValue5
 t9 := Tryz.underlying9
 a9 := Tryz.isAgg9
 z9 := Tryz.sizeOf9
 v9 := Tryz.zeroValue9
 t22 := Tryz.underlying40
 a22 := Tryz.isAgg40
 z22 := Tryz.sizeOf40
 v22 := Tryz.zeroValue40
 t23 := Tryz.underlying40
 a23 := Tryz.isAgg40
 z23 := Tryz.sizeOf40
 v23 := Tryz.zeroValue40
 t25 := Tryz.underlying3
 a25 := Tryz.isAgg3
 z25 := Tryz.sizeOf3
 v25 := Tryz.zeroValue3
 t32 := Tryz.underlying118
 a32 := Tryz.isAgg118
 z32 := Tryz.sizeOf118
 v32 := Tryz.zeroValue118
 t35 := Tryz.underlying136
 a35 := Tryz.isAgg136
 z35 := Tryz.sizeOf136
 v35 := Tryz.zeroValue136
 t36 := Tryz.underlying137
 a36 := Tryz.isAgg137
 z36 := Tryz.sizeOf137
 v36 := Tryz.zeroValue137
 t41 := Tryz.underlying141
 a41 := Tryz.isAgg141
 z41 := Tryz.sizeOf141
 v41 := Tryz.zeroValue141
 t44 := Tryz.underlying144
 a44 := Tryz.isAgg144
 z44 := Tryz.sizeOf144
 v44 := Tryz.zeroValue144
 t46 := Tryz.underlying146
 a46 := Tryz.isAgg146
 z46 := Tryz.sizeOf146
 v46 := Tryz.zeroValue146
 t53 := Tryz.underlying166
 a53 := Tryz.isAgg166
 z53 := Tryz.sizeOf166
 v53 := Tryz.zeroValue166
 t57 := Tryz.underlying170
 a57 := Tryz.isAgg170
 z57 := Tryz.sizeOf170
 v57 := Tryz.zeroValue170
 t63 := Tryz.underlying173
 a63 := Tryz.isAgg173
 z63 := Tryz.sizeOf173
 v63 := Tryz.zeroValue173
 t64 := Tryz.underlying174
 a64 := Tryz.isAgg174
 z64 := Tryz.sizeOf174
 v64 := Tryz.zeroValue174 }
def compA_ren : Go.Shelf.Ren := ⟨fun | 43 => 55 | n => n, fun | 22 => 40 | 23 => 3 | 3 => 3 | 4 => 4 | 0 => 0 | n => n, fun | n => n⟩
theorem compA : Go.Proofs.SlLaysN.n43 Tryz.prog compA_ren := {
 mixed := by kernel_rfl
 f43 := ⟨Tryz.f55.name, by decide, Tryz.func55.trans (congrArg some (by kernel_rfl))⟩
 t0 := Tryz.underlying0
 a0 := Tryz.isAgg0
 z0 := Tryz.sizeOf0
 v0 := Tryz.zeroValue0
 t3 := Tryz.underlying3
 a3 := Tryz.isAgg3
 z3 := Tryz.sizeOf3
 v3 := Tryz.zeroValue3
 t4 := Tryz.underlying4
 a4 := Tryz.isAgg4
 z4 := Tryz.sizeOf4
 v4 := Tryz.zeroValue4
 t22 := Tryz.underlying40
 a22 := Tryz.isAgg40
 z22 := Tryz.sizeOf40
 v22 := Tryz.zeroValue40
 t23 := Tryz.underlying3
 a23 := Tryz.isAgg3
 z23 := Tryz.sizeOf3
 v23 := Tryz.zeroValue3
 i23 := by kernel_rfl }
end
section
abbrev Ris (l : List Int) : Prop := l.Pairwise (· < ·)
theorem ris_ext : ∀ {l m : List Int}, Ris l → Ris m → (∀ x, x ∈ l ↔ x ∈ m) → l = m
 | [], [], _, _, _ => rfl
 | [], b :: m, _, _, h => absurd ((h b).2 List.mem_cons_self) (by simp)
 | a :: l, [], _, _, h => absurd ((h a).1 List.mem_cons_self) (by simp)
 | a :: l, b :: m, h1, h2, h => by
  obtain ⟨p1, q1⟩ := List.pairwise_cons.1 h1
  obtain ⟨p2, q2⟩ := List.pairwise_cons.1 h2
  have e : a = b := by
   rcases List.mem_cons.1 ((h a).1 List.mem_cons_self) with e | e
   ·exact e
   ·rcases List.mem_cons.1 ((h b).2 List.mem_cons_self) with e' | e'
    ·exact e'.symm
    ·have := p2 a e
     have := p1 b e'
     omega
  subst e
  rw [ris_ext q1 q2 (fun x => ⟨fun hx => by
   rcases List.mem_cons.1 ((h x).1 (List.mem_cons_of_mem _ hx)) with e | e
   ·have := p1 x hx
    omega
   ·exact e, fun hx => by
   rcases List.mem_cons.1 ((h x).2 (List.mem_cons_of_mem _ hx)) with e | e
   ·have := p2 x hx
    omega
   ·exact e⟩)]
theorem ris_nodup {l : List Int} (h : Ris l) : l.Nodup := h.imp (fun h e => by omega)
theorem ris_le {l : List Int} (h : Ris l) : l.Pairwise (· ≤ ·) := h.imp (fun h => Int.le_of_lt h)
theorem merge_sorted (l : List Int) : (l.mergeSort leI).Pairwise (· ≤ ·) := by
 have tr : ∀ a b c : Int, leI a b = true → leI b c = true → leI a c = true := fun a b c h1 h2 => by simp only [leI, decide_eq_true_eq] at *; omega
 have tt : ∀ a b : Int, (leI a b || leI b a) = true := fun a b => by simp only [leI, Bool.or_eq_true, decide_eq_true_eq]; omega
 exact (List.pairwise_mergeSort tr tt l).imp (fun h => by simpa [leI] using h)
theorem merge_ris {l : List Int} (h : l.Nodup) : Ris (l.mergeSort leI) := by
 have hn : (l.mergeSort leI).Nodup := (List.mergeSort_perm l leI).nodup_iff.2 h
 exact List.Pairwise.imp₂ (fun a b h1 h2 => by omega) (merge_sorted l) hn
def nwk (zs : List Int) : List Int := zs.foldl (fun l x => if 0 < x ∧ x ∉ l then l ++ [x] else l) []
theorem nwk_snoc (zs : List Int) (x : Int) : nwk (zs ++ [x]) = if 0 < x ∧ x ∉ nwk zs then nwk zs ++ [x] else nwk zs := by
 rw [nwk, List.foldl_append]
 rfl
theorem snoc_ind {P : List Int → Prop} (h0 : P []) (h1 : ∀ l x, P l → P (l ++ [x])) (l : List Int) : P l := by
 have : ∀ m : List Int, P m.reverse := fun m => by
  induction m with
  | nil => exact h0
  | cons a m ih =>
   rw [List.reverse_cons]
   exact h1 _ _ ih
 have h := this l.reverse
 rwa [List.reverse_reverse] at h
theorem mem_nwk (zs : List Int) (x : Int) : x ∈ nwk zs ↔ 0 < x ∧ x ∈ zs := by
 induction zs using snoc_ind with
 | h0 => simp [nwk]
 | h1 l y ih =>
  rw [nwk_snoc]
  split
  ·rename_i h
   rw [List.mem_append, ih, List.mem_append]
   constructor
   ·rintro (⟨h1, h2⟩ | h1)
    ·exact ⟨h1, .inl h2⟩
    ·simp only [List.mem_cons, List.not_mem_nil, or_false] at h1
     subst h1
     exact ⟨h.1, .inr (by simp)⟩
   ·rintro ⟨h1, h2 | h2⟩
    ·exact .inl ⟨h1, h2⟩
    ·exact .inr h2
  ·rename_i h
   rw [ih, List.mem_append]
   constructor
   ·rintro ⟨h1, h2⟩
    exact ⟨h1, .inl h2⟩
   ·rintro ⟨h1, h2 | h2⟩
    ·exact ⟨h1, h2⟩
    ·simp only [List.mem_cons, List.not_mem_nil, or_false] at h2
     subst h2
     have h3 : x ∈ nwk l := Decidable.byContradiction fun h4 => h ⟨h1, h4⟩
     exact ih.1 h3
theorem nwk_nodup (zs : List Int) : (nwk zs).Nodup := by
 induction zs using snoc_ind with
 | h0 => simp [nwk]
 | h1 l y ih =>
  rw [nwk_snoc]
  split
  ·rename_i h
   refine List.nodup_append.2 ⟨ih, by simp, fun a ha b hb e => ?_⟩
   simp only [List.mem_cons, List.not_mem_nil, or_false] at hb
   subst hb e
   exact h.2 ha
  ·exact ih
theorem nwk_length (zs : List Int) : (nwk zs).length ≤ zs.length := by
 induction zs using snoc_ind with
 | h0 => simp [nwk]
 | h1 l y ih =>
  rw [nwk_snoc]
  split <;> simp <;> omega
def setOf (zs : List Int) : List Int := (nwk zs).mergeSort leI
theorem mem_setOf (zs : List Int) (x : Int) : x ∈ setOf zs ↔ 0 < x ∧ x ∈ zs := by rw [setOf, List.mem_mergeSort, mem_nwk]
theorem setOf_ris (zs : List Int) : Ris (setOf zs) := merge_ris (nwk_nodup zs)
theorem setOf_length (zs : List Int) : (setOf zs).length ≤ zs.length := by rw [setOf, List.length_mergeSort]; exact nwk_length zs
theorem setOf_eq {zs L : List Int} (h : Ris L) (hm : ∀ x, x ∈ L ↔ 0 < x ∧ x ∈ zs) : setOf zs = L := ris_ext (setOf_ris zs) h (fun x => by rw [mem_setOf, hm])
theorem setOf_nil : setOf [] = [] := setOf_eq List.Pairwise.nil (by simp)
end
end Go.Proofs.YtdgknofpkafppaaGreatDoor
