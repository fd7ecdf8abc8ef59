/- Lemmas that the proof leans on. -/
import Derived.Test.YtkjempffidndeaaGreatDoorB14
namespace Go.Proofs.YtkjempffidndeaaGreatDoor
open Go Go.RowKit
open List renaming getElem_toArray → lqA, getElem_cons_zero → lqB, getElem_cons_succ → lqC, setIfInBounds_toArray → lqD, set_cons_zero → lqE, set_cons_succ → lqF
set_option maxRecDepth 100000
set_option maxHeartbeats 1000000
section
variable {base : Nat} {w0 w w' : World} {p m : Nat} {L : Po} {id : Int} {es : List Addr} {e : Ps}
structure Nok (L : Po) : Prop where
 acy : Acy (pab L)
 zero : gt L 0 = none
 par : ∀ x e, gt L x = some e → e.s.par = 0 ∨ (gt L e.s.par).isSome = true
 key : ∀ x e, gt L x = some e → Bt x ∧ Bt e.s.par
theorem fwithin_any (hE : Fe w es) (h : Pf base w p m L) (hN : Nok L) (x o : Int) (hx : (gt L x).isSome = true) :
  Calls Tryz.prog 78 #[.pointer (some ⟨p, 0, none⟩), .int .i64 x, .int .i64 o] w fun e w' => e = .returned (.bool (anc (pab L) x o)) ∧ ∃ q, w' = w.drewN q := by
 have HE := hid hE
 have H := hid h
 have HN := hid hN
 obtain ⟨ex, hex⟩ := Option.isSome_iff_exists.1 hx
 have hbx := (hN.key x ex hex).1
 clear hE h hN hex ex
 go_enter Tryz.func78, Tryz.ntmps78
 go_wp2
 go_loopw [1] (fun r wr => ∃ (y : Int) (q : Nat), r = .int .i64 y ∧ Bt y ∧ (y = 0 ∨ (gt L y).isSome = true) ∧ anc (pab L) x o = anc (pab L) y o ∧ wr = w.drewN q) (fun r _ => dpt (pab L) (numOf r))
 case atStart => exact ⟨x, 0, rfl, hbx, .inr hx, rfl, rfl⟩
 case round =>
  obtain ⟨y, q, rfl, hby, hy, hanc, rfl⟩ := hrel
  cases h0 : (y != 0)
  ·have h0' : y = 0 := by simpa using h0
   have HA : Hid (anc (pab L) x o = false) := by
    rw [Hid, hanc, h0', anc_none (by rw [gt_pab, HN.out.zero]; rfl)]
   clear hanc hy
   go_wp2
   go_ret
   rw [HA.out]
   exact ⟨rfl, q, rfl⟩
  ·have h0' : y ≠ 0 := by simpa using h0
   obtain ⟨ey, hey⟩ := Option.isSome_iff_exists.1 (hy.resolve_left h0')
   have hs : gt (pab L) y = some ey.s.f := by rw [gt_pab, hey]; rfl
   have ha := anc_some hs o
   cases h1 : (y == o)
   ·have HA : Hid (anc (pab L) x o = anc (pab L) ey.s.par o) := by rw [Hid, hanc, ha, h1]; rfl
    have HD : Hid (dpt (pab L) ey.s.par < dpt (pab L) y) := dpt_lt HN.out.acy hs
    have HP := hid (fparent_any (HE.out.drewN q) (H.out.drewN q) y hby)
    have HPE : Hid (parF (pab L) y = ey.s.par) := by rw [Hid, parF, hs]; rfl
    rw [HPE.out] at HP
    have HK := hid (HN.out.key y ey hey).2
    have HR := hid (HN.out.par y ey hey)
    clear hanc hy ha hs hey HPE h0'
    go_wp2_with fail
    refine HP.out.mono ?_
    rintro e w1 ⟨rfl, q1, rfl⟩
    go_wp2
    go_roundw
    case rel => exact ⟨ey.s.par, q + q1, rfl, HK.out, HR.out, HA.out, by simp⟩
    case measure =>
     simp only [numOf]
     exact HD.out
   ·have HA : Hid (anc (pab L) x o = true) := by rw [Hid, hanc, ha, h1]; rfl
    clear hanc hy ha hs hey h0'
    go_wp2
    go_ret
    rw [HA.out]
    exact ⟨rfl, q, rfl⟩
theorem flatest_any (h : Pf base w p m L) (he : gt L id = some e) :
  Calls Tryz.prog 81 #[.pointer (some ⟨e.g, 0, none⟩)] w fun e' w' => e' = .returned (latS e.s).v ∧ w' = w := by
 have c1 : w.cell? ⟨e.g, 7, none⟩ = some (.bool e.s.pe.ord) := h.cell he
 have c2 : w.cell? ⟨e.g, 8, none⟩ = some (.slice e.s.pe.od.a e.s.pe.od.n e.s.pe.od.c) := h.cell he
 have c3 : w.cell? ⟨e.g, 17, none⟩ = some (.bool e.s.ca.ord) := h.cell he
 have c4 : w.cell? ⟨e.g, 18, none⟩ = some (.slice e.s.ca.od.a e.s.ca.od.n e.s.ca.od.c) := h.cell he
 have c5 : w.cell? ⟨e.g, 28, none⟩ = some (.slice e.s.no.od.a e.s.no.od.n e.s.no.od.c) := h.cell he
 have hlt := (h.wlt he (mem_wb.2 (.inl rfl))).2
 have HL : Hid (latS e.s = bif e.s.pe.ord then e.s.pe.od else bif e.s.ca.ord then e.s.ca.od else e.s.no.od) := rfl
 clear h he
 generalize latS e.s = ls at *
 rw [Sl.v]
 go_enter Tryz.func81, Tryz.ntmps81
 cases h1 : e.s.pe.ord with
 | true =>
  rw [h1] at HL
  have hl : ls = e.s.pe.od := HL.out
  subst hl
  go_wp2
  go_ret
  exact ⟨rfl, rfl⟩
 | false =>
  cases h2 : e.s.ca.ord with
  | true =>
   rw [h1, h2] at HL
   have hl : ls = e.s.ca.od := HL.out
   subst hl
   go_wp2
   go_ret
   exact ⟨rfl, rfl⟩
  | false =>
   rw [h1, h2] at HL
   have hl : ls = e.s.no.od := HL.out
   subst hl
   go_wp2
   go_ret
   exact ⟨rfl, rfl⟩
theorem freorder_any (h : Pf base w0 p m L) (he : gt L id = some e) (hb : Below w0.heap.size w0 w) (l : Sl) (hl : RdM 1 w l.a l.n l.c l.l) (hn : ∀ y, l.a = some y → 0 < l.n → w0.heap.size ≤ y.block) :
  Calls Tryz.prog 79 #[.pointer (some ⟨e.g, 0, none⟩), .slice l.a l.n l.c] w fun e' w' => e' = .returned undef ∧ PfR base w0 p m L (upd (pab L) id (ordS l.l)) w' (st L id ⟨e.g, { e.s with pe := { e.s.pe with ord := true, od := l } }⟩) := by
 have HR := hid (h.putOd he hb l hl hn)
 have hw := h.on hb
 have c1 : w.cell? ⟨e.g, 7, none⟩ = some (.bool e.s.pe.ord) := hw.cell he
 have c2 : w.cell? ⟨e.g, 8, none⟩ = some (.slice e.s.pe.od.a e.s.pe.od.n e.s.pe.od.c) := hw.cell he
 have f1 := hw.fz he
 have hlt := (hw.wlt he (mem_wb.2 (.inl rfl))).2
 clear hw h hl hn hb
 go_enter Tryz.func79, Tryz.ntmps79
 go_wp2
 go_end0
 exact ⟨rfl, HR.out⟩
theorem pab_synF (he : gt L id = some e) (h0 : e.s.par ≠ 0) (on : Bool) : upd (pab L) id (fun s => { s with syn := on }) = synF (pab L) id on := by
 rw [upd, synF, gt_pab, he]
 simp [Sr.f, h0]
theorem fsync_any (hE : Fe w es) (h : Pf base w p m L) (id : Int) (hi : Bt id) (hp : ∀ e, gt L id = some e → Bt e.s.par) (on : Bool) :
  Calls Tryz.prog 100 #[.pointer (some ⟨p, 0, none⟩), .int .i64 id, .bool on] w fun e w' => e = .returned (erv es (unsE (pab L) id)) ∧ ∃ L', PfR base w p m L (synF (pab L) id on) w' L' := by
 have HF := hid (ffindsub_any hE h id hi hp)
 cases hq : gt L id with
 | none =>
  have HT : Hid (fs1 L id = none ∧ fs2 L id = none ∧ unsE (pab L) id = 5) := ⟨by rw [fs1, hq], by rw [fs2, hq], by rw [unsE, gt_pab, hq]; rfl⟩
  have HX : Hid (∀ q, PfR base w p m L (synF (pab L) id on) (w.drewN q) L) := fun q => (PfR.refl h (below_drewN (Below.refl _ _) q)).as (by rw [synF, gt_pab, hq]; rfl)
  rw [HT.out.1, HT.out.2.1, HT.out.2.2] at HF
  rw [HT.out.2.2]
  clear hq h hE HT hp
  go_enter Tryz.func100, Tryz.ntmps100
  go_wp2_with fail
  refine HF.out.mono ?_
  rintro e w1 ⟨rfl, q1, rfl⟩
  rw [ptv_none, erv_succ]
  go_wp2
  go_ret
  exact ⟨rfl, L, HX.out q1⟩
 | some e =>
  cases h0 : (e.s.par == 0)
  ·have h0' : e.s.par ≠ 0 := by simpa using h0
   have HT : Hid (fs1 L id = some e.g ∧ unsE (pab L) id = 0) := ⟨by rw [fs1, hq]; simp [h0'], by rw [unsE, gt_pab, hq]; simp [Sr.f, h0']⟩
   rw [HT.out.1, HT.out.2] at HF
   rw [HT.out.2]
   have HX : Hid (∀ q, ∃ L', PfR base w p m L (synF (pab L) id on) ((w.drewN q).setCell ⟨e.g, 31, none⟩ (.bool on)) L') := fun q => ⟨_, (h.putSyn hq (below_drewN (Below.refl _ _) q) on).as (pab_synF hq h0' on)⟩
   have c1 : w.cell? ⟨e.g, 31, none⟩ = some (.bool e.s.syn) := h.cell hq
   have f1 := h.fz hq
   have hlt := (h.wlt hq (mem_wb.2 (.inl rfl))).2
   generalize fs2 L id = f2 at HF
   clear hq h hE HT hp h0' h0
   go_enter Tryz.func100, Tryz.ntmps100
   go_wp2_with fail
   refine HF.out.mono ?_
   rintro e' w1 ⟨rfl, q1, rfl⟩
   rw [ptv_some, erv0]
   go_wp2
   go_ret
   exact ⟨rfl, HX.out q1⟩
  ·have h0' : e.s.par = 0 := by simpa using h0
   have HT : Hid (fs1 L id = none ∧ fs2 L id = none ∧ unsE (pab L) id = 10) := ⟨by rw [fs1, hq]; simp [h0'], by rw [fs2, hq]; simp [h0'], by rw [unsE, gt_pab, hq]; simp [Sr.f, h0']⟩
   have HX : Hid (∀ q, PfR base w p m L (synF (pab L) id on) (w.drewN q) L) := fun q => (PfR.refl h (below_drewN (Below.refl _ _) q)).as (by rw [synF, gt_pab, hq]; simp [Sr.f, h0'])
   rw [HT.out.1, HT.out.2.1, HT.out.2.2] at HF
   rw [HT.out.2.2]
   clear hq h hE HT hp h0'
   go_enter Tryz.func100, Tryz.ntmps100
   go_wp2_with fail
   refine HF.out.mono ?_
   rintro e w1 ⟨rfl, q1, rfl⟩
   rw [ptv_none, erv_succ]
   go_wp2
   go_ret
   exact ⟨rfl, L, HX.out q1⟩
theorem fturn_any (hE : Fe w es) (h : Pf base w p m L) (id : Int) (hi : Bt id) (g : Nat) (lb : Array Value) (eg : ∀ args w, (callFunc g args).run Tryz.prog w = .ok (.enter g args) w) (T : World → Prop)
  (hno : gt L id = none → ∀ q, T (w.drewN q))
  (hg : ∀ e, gt L id = some e → ∀ q, Calls Tryz.prog g (#[.pointer (some ⟨e.g, 0, none⟩)] ++ lb) (w.drewN q) fun e' w' => e' = .returned undef ∧ T w') :
  Calls Tryz.prog 58 #[.pointer (some ⟨p, 0, none⟩), .int .i64 id, .func (.func g) #[] lb] w fun e w' => e = .returned (erv es (hasE (pab L) id)) ∧ T w' := by
 have HF := hid (ffind_any hE h id hi)
 cases hq : gt L id with
 | none =>
  have HS : Hid (pto L id = none ∧ hasE (pab L) id = 5) := ⟨by rw [pto, hq]; rfl, by rw [hasE, gt_pab, hq]; rfl⟩
  have HX := hid (hno hq)
  rw [HS.out.1, HS.out.2] at HF
  rw [HS.out.2]
  clear hq h hE HS hno hg
  go_enter Tryz.func58, Tryz.ntmps58
  go_wp2_with fail
  refine HF.out.mono ?_
  rintro e w1 ⟨rfl, q1, rfl⟩
  rw [ptv_none, erv_succ]
  go_wp2
  go_ret
  exact ⟨rfl, HX.out q1⟩
 | some e =>
  have HS : Hid (pto L id = some e.g ∧ hasE (pab L) id = 0) := ⟨by rw [pto, hq]; rfl, by rw [hasE, gt_pab, hq]; rfl⟩
  have HX := hid (hg e hq)
  have hlt := (h.wlt hq (mem_wb.2 (.inl rfl))).2
  have c1 : w.cell? ⟨e.g, 0, none⟩ = some (.bool e.s.pe.at_) := h.cell hq
  rw [HS.out.1, HS.out.2] at HF
  rw [HS.out.2]
  clear hq h hE HS hno hg
  go_enter Tryz.func58, Tryz.ntmps58
  go_wp2_with fail
  refine HF.out.mono ?_
  rintro e' w1 ⟨rfl, q1, rfl⟩
  rw [ptv_some, erv0]
  go_wp2_with fail
  refine (HX.out q1).mono ?_
  rintro e' w2 ⟨rfl, hT⟩
  have HT := hid hT
  clear hT
  go_wp2
  go_ret
  exact ⟨rfl, HT.out⟩
end
section
variable {base : Nat} {w0 w w' : World} {p m : Nat} {L : Po} {id : Int} {es : List Addr} {e : Ps}
theorem own_sl {w : World} {base T m n : Nat} {v : Value} {l : List (List Int)} (h : w.ownsRow base T m v n (mcs l)) (hn : l.length = n) (hs : ∀ y ∈ l, y.length = m) : ∃ s : Sl, v = s.v ∧ s.n = n ∧ s.l = l ∧ RdM m w s.a s.n s.c s.l ∧ w.ownsRow base T m s.v s.n (mcs s.l) := by
 subst hn
 rcases h.2 with ⟨rfl, h0⟩ | ⟨g, cap, cur, rfl, hb, hg, hn, hm, _, _⟩
 ·have hl := List.eq_nil_of_length_eq_zero h0
  subst hl
  exact ⟨sl0, rfl, rfl, rfl, RdM.nil m w, h⟩
 ·refine ⟨⟨some ⟨g, 0, none⟩, l.length, cap, l⟩, rfl, rfl, rfl, ⟨rfl, hn, hm, (fun h => by cases h), fun _ => ⟨g, 0, rfl, (h.lt g rfl).2, fun j y hy i z hz => ?_⟩, hs⟩, h⟩
  have hlt : j * m + i < l.length * m := by
   rw [← mcs_length hs]
   exact (List.getElem?_eq_some_iff.1 (mcs_at hs hy hz)).1
  rw [Nat.zero_add, h.cellAt _ hlt]
  exact mcs_at hs hy hz
theorem fatt1_any (h : Pf base w0 p m L) (he : gt L id = some e) (hb : Below w0.heap.size w0 w) (c : Nat) (b : Int) (hc : w.cell? ⟨c, 0, none⟩ = some (.int .i64 b)) (hce : c ≠ e.g) :
  Calls Tryz.prog 59 (#[.pointer (some ⟨e.g, 0, none⟩)] ++ #[.pointer (some ⟨c, 0, none⟩)]) w fun e' w' => e' = .returned undef ∧ ∃ L', PfR base w0 p m L (upd (pab L) id (attS b)) w' L' := by
 have HR := hid (h.putAtt he (w := w.drew) (Below.on hb (Below.refl _ _).drew) b)
 have hw := h.on hb
 have c1 : w.cell? ⟨e.g, 0, none⟩ = some (.bool e.s.pe.at_) := hw.cell he
 have c2 : w.cell? ⟨e.g, 1, none⟩ = some (.int .i64 e.s.pe.buf) := hw.cell he
 have f1 := hw.fz he
 have hlt := (hw.wlt he (mem_wb.2 (.inl rfl))).2
 have hlc := World.block_lt_of_cell? _ _ hc
 clear hw h hb he
 go_enter Tryz.func59, Tryz.ntmps59
 go_wp2_with fail
 go_region
 go_wp2_with fail
 go_end0
 exact ⟨rfl, _, HR.out⟩
theorem fattach_any (hE : Fe w es) (h : Pf base w p m L) (id : Int) (hi : Bt id) (b : Int) :
  Calls Tryz.prog 20 #[.pointer (some ⟨p, 0, none⟩), .int .i64 id, .int .i64 b] w fun e w' => e = .returned (erv es (hasE (pab L) id)) ∧ ∃ L', PfR base w p m L (upd (pab L) id (attS b)) w' L' := by
 have hb := bel_new w (.cells #[.int .i64 b] 3)
 have HT := hid (fturn_any (hE.on hb) (h.on hb) id hi 59 #[.pointer (some ⟨w.heap.size, 0, none⟩)] (enters_of Tryz.func59 (by kernel_rfl) rfl) (fun w' => ∃ L', PfR base w p m L (upd (pab L) id (attS b)) w' L')
  (fun hq q => ⟨L, (PfR.refl h (Below.on hb (below_drewN (Below.refl _ _) q))).as (by rw [upd, gt_pab, hq]; rfl)⟩)
  (fun e he q => fatt1_any h he (Below.on hb (below_drewN (Below.refl _ _) q)) w.heap.size b (by
   simp) (fun e1 => by have := (h.wlt he (mem_wb.2 (.inl rfl))).2; omega)))
 clear hE h hb
 go_enter Tryz.func20, Tryz.ntmps20
 go_wp2_with fail
 refine HT.out.mono ?_
 rintro e w1 ⟨rfl, hx⟩
 have HX := hid hx
 clear hx
 go_wp2
 go_ret
 exact ⟨rfl, HX.out⟩
theorem ffrm_fin (h : Pf base w0 p m L) (he : gt L id = some e) {W w1 : World} (hb : Below w0.heap.size w0 W) (b : Int) {v' : Value} (ho : w1.ownsRow base 3 1 v' (e.s.pe.fr.n + 1) (mcs e.s.pe.fr.l ++ mcs [[b]])) (hg : W.grownBy w1 e.s.pe.fr.v.ownBlock) (hv : v'.ownBlock = e.s.pe.fr.v.ownBlock ∨ v'.ownBlock = some W.heap.size) :
  ∃ l : Sl, v' = .slice l.a l.n l.c ∧ w1.cell? ⟨e.g, 3, none⟩ = some (.slice e.s.pe.fr.a e.s.pe.fr.n e.s.pe.fr.c) ∧ (∀ j, w1.frozen? ⟨e.g, j, none⟩ = false) ∧ e.g < w1.heap.size ∧ ∃ L', PfR base w0 p m L (upd (pab L) id (frmS b)) (w1.setCell ⟨e.g, 3, none⟩ (.slice l.a l.n l.c)) L' := by
 have hW := h.on hb
 have hok := (hW.rows id e he)
 have hlen := hok.ok.pe.fr.len
 obtain ⟨l, rfl, hn, hl, hr, ho2⟩ := own_sl (l := e.s.pe.fr.l ++ [[b]]) (by rw [mcs_append]; exact ho) (by rw [List.length_append, hlen]; rfl) (fun y hy => by
  rcases List.mem_append.1 hy with hy | hy
  ·exact hok.ok.pe.fr.size y hy
  ·simp only [List.mem_cons, List.not_mem_nil, or_false] at hy
   rw [hy]
   rfl)
 have hge : some e.g ≠ e.s.pe.fr.v.ownBlock := fun e1 => (h.sep id e he).1.g e.s.pe.fr (by simp [wos]) (bl_mem.2 e1.symm)
 have hobj : w1.heap[e.g]? = W.heap[e.g]? := hg.block _ (hW.wlt he (mem_wb.2 (.inl rfl))).2 hge
 have hB : Bk w1 e.g 113 (pcs e.s).toArray := ⟨hobj.trans (hW.srf id e he)⟩
 refine ⟨l, rfl, hB.cell 3, fun j => hB.fz j, hB.lt, _, h.putFr he hb ho2 hr hg (fun x hx => ?_) hl⟩
 rcases hv with h1 | h1
 ·rw [bl_mem, h1] at hx
  exact .inl (bl_mem.2 hx)
 ·rw [bl_mem, h1] at hx
  cases hx
  exact .inr hb.size
theorem ffrm1_any (h : Pf base w0 p m L) (he : gt L id = some e) (hb : Below w0.heap.size w0 w) (hn : e.s.pe.fr.n ≤ 1000000) (c : Nat) (b : Int) (hc : w.cell? ⟨c, 0, none⟩ = some (.int .i64 b)) :
  Calls Tryz.prog 90 (#[.pointer (some ⟨e.g, 0, none⟩)] ++ #[.pointer (some ⟨c, 0, none⟩)]) w fun e' w' => e' = .returned undef ∧ ∃ L', PfR base w0 p m L (upd (pab L) id (frmS b)) w' L' := by
 have HF : Hid (∀ (W w1 : World) (v' : Value), Below w.heap.size w W → w1.ownsRow base 3 1 v' (e.s.pe.fr.n + 1) (mcs e.s.pe.fr.l ++ ic [b]) → W.grownBy w1 e.s.pe.fr.v.ownBlock → (v'.ownBlock = e.s.pe.fr.v.ownBlock ∨ v'.ownBlock = some W.heap.size) → ∃ l : Sl, v' = .slice l.a l.n l.c ∧ w1.cell? ⟨e.g, 3, none⟩ = some (.slice e.s.pe.fr.a e.s.pe.fr.n e.s.pe.fr.c) ∧ (∀ j, w1.frozen? ⟨e.g, j, none⟩ = false) ∧ e.g < w1.heap.size ∧ ∃ L', PfR base w0 p m L (upd (pab L) id (frmS b)) (w1.setCell ⟨e.g, 3, none⟩ (.slice l.a l.n l.c)) L') := fun W w1 v' hW ho hg hv => ffrm_fin h he (Below.on hb hW) b ho hg hv
 have HC : Hid (∀ W : World, Below w.heap.size w W → W.cell? ⟨e.g, 3, none⟩ = some (.slice e.s.pe.fr.a e.s.pe.fr.n e.s.pe.fr.c) ∧ W.cell? ⟨c, 0, none⟩ = some (.int .i64 b) ∧ e.g < W.heap.size ∧ c < W.heap.size) := fun W hW =>
  ⟨(h.on (Below.on hb hW)).cell he, by rw [hW.cell (World.block_lt_of_cell? _ _ hc)]; exact hc, ((h.on (Below.on hb hW)).wlt he (mem_wb.2 (.inl rfl))).2, Nat.lt_of_lt_of_le (World.block_lt_of_cell? _ _ hc) hW.size⟩
 have HO : Hid (∀ W : World, Below w.heap.size w W → W.ownsRow base 3 1 (.slice e.s.pe.fr.a e.s.pe.fr.n e.s.pe.fr.c) e.s.pe.fr.n (mcs e.s.pe.fr.l) ∧ base ≤ W.heap.size) := fun W hW => ⟨((h.on (Below.on hb hW)).rows id e he).fr, by
  have := (h.on (Below.on hb hW)).lt.1
  have := h.lop
  omega⟩
 obtain ⟨i0, hi, hz0, hz1, hz2⟩ := infoMP infoM1
 clear h he hb hc
 go_enter Tryz.func90, Tryz.ntmps90
 go_upto_region 0 with fail
 refine wp_region_gate_drew (g := 7) (S := RowKit.Below w.heap.size w) (by kernel_rfl) ?hh (fun hHeld => ?_)
 case hh => exact ((Below.refl _ _).drew)
 generalize w.drew = W0 at hHeld ⊢
 try dsimp only at hHeld
 refine wpAnyG_takeFree (i := 0) (v := ?_) rfl (by kernel_rfl) (by kernel_rfl) (by kernel_rfl) (by kernel_rfl) (fun _ _ _ h => h) (Or.inl ⟨by kernel_rfl, ?hy0⟩) (by assumption) ?_
 case hy0 => (intro wI _; go_simp; try with_reducible rfl)
 try simp only [Act.put, lqA, lqB, lqD, lqE, lqF]
 refine wpAnyG_take (i := 1) (v := ?_) rfl (by kernel_rfl) (by kernel_rfl) (by kernel_rfl) (by kernel_rfl) (fun _ _ _ h => h) (Or.inl ⟨by kernel_rfl, ?hy1⟩) (by assumption) ?_
 case hy1 => (intro wI hSw; (try dsimp only at hSw); obtain ⟨t1, t2, t3, t4⟩ := HC.out _ hSw; go_simp; try with_reducible rfl)
 try simp only [Act.put, lqA, lqB, lqC, lqD, lqE, lqF]
 refine wpAnyG_take (i := 2) (v := ?_) rfl (by kernel_rfl) (by kernel_rfl) (by kernel_rfl) (by kernel_rfl) (fun _ _ _ h => h) (Or.inl ⟨by kernel_rfl, ?hy2⟩) (by assumption) ?_
 case hy2 => (intro wI hSw; (try dsimp only at hSw); obtain ⟨t1, t2, t3, t4⟩ := HC.out _ hSw; go_simp; try with_reducible rfl)
 try simp only [Act.put, lqA, lqB, lqC, lqD, lqE, lqF]
 refine wpAnyG_take (i := 3) (v := ?_) rfl (by kernel_rfl) (by kernel_rfl) (by kernel_rfl) (by kernel_rfl) (fun _ _ _ h => h) (Or.inl ⟨by kernel_rfl, ?hy3⟩) (by assumption) ?_
 case hy3 => (intro wI hSw; (try dsimp only at hSw); obtain ⟨t1, t2, t3, t4⟩ := HC.out _ hSw; go_simp; try with_reducible rfl)
 try simp only [Act.put, lqA, lqB, lqC, lqD, lqE, lqF]
 refine wpAnyG_take (i := 4) (v := ?_) rfl (by kernel_rfl) (by kernel_rfl) (by kernel_rfl) (by kernel_rfl) (fun _ _ _ h => h) (Or.inl ⟨by kernel_rfl, ?hy4⟩) (by assumption) ?_
 case hy4 => (intro wI hSw; (try dsimp only at hSw); obtain ⟨t1, t2, t3, t4⟩ := HC.out _ hSw; go_simp; try with_reducible rfl)
 try simp only [Act.put, lqA, lqB, lqC, lqD, lqE, lqF]
 refine wpAnyG_take (i := 5) (v := ?_) rfl (by kernel_rfl) (by kernel_rfl) (by kernel_rfl) (by kernel_rfl) (fun _ _ _ h => h) (Or.inl ⟨by kernel_rfl, ?hy5⟩) (by assumption) ?_
 case hy5 => (intro wI hSw; (try dsimp only at hSw); obtain ⟨t1, t2, t3, t4⟩ := HC.out _ hSw; go_simp; try with_reducible rfl)
 try simp only [Act.put, lqA, lqB, lqC, lqD, lqE, lqF]
 refine wpAnyG_ready (rs := [6]) (by kernel_rfl) (by simp) ?_
 refine AllReadyG.cons rfl (fun K hK => ?_) AllReadyG.nil
 have hb := Below.on hHeld (bel_new W0 (.cells #[.int .i64 b] 3))
 have HS := hid (srcLit W0 b)
 go_simp
 refine hK.out _ _ hb (fun _ => ?_)
 clear hK K hHeld
 generalize W0.alloc (.cells #[.int .i64 b] 3) = W6 at *
 have hHeld := hb
 clear hb
 try simp only [Act.put, lqA, lqB, lqC, lqD, lqE, lqF]
 have hG := hHeld
 clear hHeld
 have hHeld : True := trivial
 refine wpAnyG_gateOp rfl (by kernel_rfl) (fun K hK => ?_)
 refine step_appP _ (by kernel_rfl) (.tmp 7) (.tmp 9) 63 63 rfl base 3 i0 (.int .i64 0) 1 8 Tryz.underlying63 hi hz0 hz1 hz2 rfl _ _ _ (by simp [Act.eval]) (HO.out _ hG).1 _ _ _ (by simp [Act.eval]) HS.out (by simp only [maxLen]; omega) (fitsM (by omega) (by decide)) (HO.out _ hG).2 ?_
 intro v2 W7 o2 g2 p2
 obtain ⟨l2, rfl, d1, d2, d3, d4⟩ := HF.out _ _ _ hG o2 g2 p2
 have HX := hid d4
 clear d4 o2 g2 p2
 refine hK.out _ _ trivial (fun _ => ?_)
 clear hK K
 try simp only [Act.put, lqA, lqB, lqC, lqD, lqE, lqF]
 refine wpAnyH_take (i := 8) (v := ?_) rfl (by kernel_rfl) (by kernel_rfl) (by kernel_rfl) (fun _ _ _ h => h) (Or.inl ⟨by kernel_rfl, ?hy8⟩) (by assumption) ?_
 case hy8 => (intro wI hSw; (try dsimp only at hSw); go_simp; try with_reducible rfl)
 try simp only [Act.put, lqA, lqB, lqC, lqD, lqE, lqF]
 refine wpAnyH_take (i := 9) (v := ?_) rfl (by kernel_rfl) (by kernel_rfl) (by kernel_rfl) (fun _ _ _ h => h) (Or.inl ⟨by kernel_rfl, ?hy9⟩) (by assumption) ?_
 case hy9 => (intro wI hSw; (try dsimp only at hSw); go_simp; try with_reducible rfl)
 try simp only [Act.put, lqA, lqB, lqC, lqD, lqE, lqF]
 refine wpAnyH_ready (rs := [10]) (by kernel_rfl) (by simp) ?_
 refine AllReadyH.cons rfl (fun K hK => ?_) AllReadyH.nil
 go_simp
 refine hK.out _ _ trivial (fun _ => ?_)
 clear hK K
 try simp only [Act.put, lqA, lqB, lqC, lqD, lqE, lqF]
 refine wpAnyH_done (by kernel_rfl) ?_ _
 go_wp2_with fail
 go_end0
 exact ⟨rfl, HX.out⟩
theorem fframe_any (hE : Fe w es) (h : Pf base w p m L) (id : Int) (hi : Bt id) (hn : ∀ e, gt L id = some e → e.s.pe.fr.n ≤ 1000000) (b : Int) :
  Calls Tryz.prog 45 #[.pointer (some ⟨p, 0, none⟩), .int .i64 id, .int .i64 b] w fun e w' => e = .returned (erv es (hasE (pab L) id)) ∧ ∃ L', PfR base w p m L (upd (pab L) id (frmS b)) w' L' := by
 have hb := bel_new w (.cells #[.int .i64 b] 3)
 have HT := hid (fturn_any (hE.on hb) (h.on hb) id hi 90 #[.pointer (some ⟨w.heap.size, 0, none⟩)] (enters_of Tryz.func90 (by kernel_rfl) rfl) (fun w' => ∃ L', PfR base w p m L (upd (pab L) id (frmS b)) w' L')
  (fun hq q => ⟨L, (PfR.refl h (Below.on hb (below_drewN (Below.refl _ _) q))).as (by rw [upd, gt_pab, hq]; rfl)⟩)
  (fun e he q => ffrm1_any h he (Below.on hb (below_drewN (Below.refl _ _) q)) (hn e he) w.heap.size b (by simp)))
 clear hE h hb
 go_enter Tryz.func45, Tryz.ntmps45
 go_wp2_with fail
 refine HT.out.mono ?_
 rintro e w1 ⟨rfl, hx⟩
 have HX := hid hx
 clear hx
 go_wp2
 go_ret
 exact ⟨rfl, HX.out⟩
theorem src4 (w : World) (z0 z1 z2 z3 : Int) : Src Tryz.prog 4 55 (.slice (some ⟨w.heap.size, 0, none⟩) 1 1) 1 (mcs [[z0, z1, z2, z3]]) (w.alloc (.cells #[.int .i64 z0, .int .i64 z1, .int .i64 z2, .int .i64 z3] 54)) :=
 Src.ofSlice (P := Tryz.prog) _ Tryz.underlying55 ⟨w.heap.size, 0, none⟩ 1 1 (mcs [[z0, z1, z2, z3]]) rfl (fun q u hu => by
  match q, hu with
  | 0, hu => cases hu; simp [Addr.add]
  | 1, hu => cases hu; simp [Addr.add]
  | 2, hu => cases hu; simp [Addr.add]
  | 3, hu => cases hu; simp [Addr.add]
  | q + 4, hu => simp [mcs] at hu) (mcs_one _)
theorem fdmg_fin (h : Pf base w0 p m L) (he : gt L id = some e) {W w1 : World} (hb : Below w0.heap.size w0 W) (b : List Int) (hbl : b.length = 4) {v' : Value} (ho : w1.ownsRow base 54 4 v' (e.s.pe.dm.n + 1) (mcs e.s.pe.dm.l ++ mcs [b])) (hg : W.grownBy w1 e.s.pe.dm.v.ownBlock) (hv : v'.ownBlock = e.s.pe.dm.v.ownBlock ∨ v'.ownBlock = some W.heap.size) :
  ∃ l : Sl, v' = .slice l.a l.n l.c ∧ w1.cell? ⟨e.g, 2, none⟩ = some (.slice e.s.pe.dm.a e.s.pe.dm.n e.s.pe.dm.c) ∧ (∀ j, w1.frozen? ⟨e.g, j, none⟩ = false) ∧ e.g < w1.heap.size ∧ ∃ L', PfR base w0 p m L (upd (pab L) id (dmgS b)) (w1.setCell ⟨e.g, 2, none⟩ (.slice l.a l.n l.c)) L' := by
 have hW := h.on hb
 have hok := (hW.rows id e he)
 have hlen := hok.ok.pe.dm.len
 obtain ⟨l, rfl, hn, hl, hr, ho2⟩ := own_sl (l := e.s.pe.dm.l ++ [b]) (by rw [mcs_append]; exact ho) (by rw [List.length_append, hlen]; rfl) (fun y hy => by
  rcases List.mem_append.1 hy with hy | hy
  ·exact hok.ok.pe.dm.size y hy
  ·simp only [List.mem_cons, List.not_mem_nil, or_false] at hy
   rw [hy]
   exact hbl)
 have hge : some e.g ≠ e.s.pe.dm.v.ownBlock := fun e1 => (h.sep id e he).1.g e.s.pe.dm (by simp [wos]) (bl_mem.2 e1.symm)
 have hobj : w1.heap[e.g]? = W.heap[e.g]? := hg.block _ (hW.wlt he (mem_wb.2 (.inl rfl))).2 hge
 have hB : Bk w1 e.g 113 (pcs e.s).toArray := ⟨hobj.trans (hW.srf id e he)⟩
 refine ⟨l, rfl, hB.cell 2, fun j => hB.fz j, hB.lt, _, h.putDm he hb ho2 hr hg (fun x hx => ?_) hl⟩
 rcases hv with h1 | h1
 ·rw [bl_mem, h1] at hx
  exact .inl (bl_mem.2 hx)
 ·rw [bl_mem, h1] at hx
  cases hx
  exact .inr hb.size
theorem fdmg1_any (h : Pf base w0 p m L) (he : gt L id = some e) (hb : Below w0.heap.size w0 w) (hn : e.s.pe.dm.n ≤ 1000000) (c : Nat) (z0 z1 z2 z3 : Int) (hc : Bk w c 54 #[.int .i64 z0, .int .i64 z1, .int .i64 z2, .int .i64 z3]) :
  Calls Tryz.prog 89 (#[.pointer (some ⟨e.g, 0, none⟩)] ++ #[.pointer (some ⟨c, 0, none⟩)]) w fun e' w' => e' = .returned undef ∧ ∃ L', PfR base w0 p m L (upd (pab L) id (dmgS [z0, z1, z2, z3])) w' L' := by
 have HF : Hid (∀ (W w1 : World) (v' : Value), Below w.heap.size w W → w1.ownsRow base 54 4 v' (e.s.pe.dm.n + 1) (mcs e.s.pe.dm.l ++ mcs [[z0, z1, z2, z3]]) → W.grownBy w1 e.s.pe.dm.v.ownBlock → (v'.ownBlock = e.s.pe.dm.v.ownBlock ∨ v'.ownBlock = some W.heap.size) → ∃ l : Sl, v' = .slice l.a l.n l.c ∧ w1.cell? ⟨e.g, 2, none⟩ = some (.slice e.s.pe.dm.a e.s.pe.dm.n e.s.pe.dm.c) ∧ (∀ j, w1.frozen? ⟨e.g, j, none⟩ = false) ∧ e.g < w1.heap.size ∧ ∃ L', PfR base w0 p m L (upd (pab L) id (dmgS [z0, z1, z2, z3])) (w1.setCell ⟨e.g, 2, none⟩ (.slice l.a l.n l.c)) L') := fun W w1 v' hW ho hg hv => fdmg_fin h he (Below.on hb hW) [z0, z1, z2, z3] rfl ho hg hv
 have HC : Hid (∀ W : World, Below w.heap.size w W → W.cell? ⟨e.g, 2, none⟩ = some (.slice e.s.pe.dm.a e.s.pe.dm.n e.s.pe.dm.c) ∧ e.g < W.heap.size ∧ c < W.heap.size ∧ W.cell? ⟨c, 0, none⟩ = some (.int .i64 z0) ∧ W.cell? ⟨c, 1, none⟩ = some (.int .i64 z1) ∧ W.cell? ⟨c, 2, none⟩ = some (.int .i64 z2) ∧ W.cell? ⟨c, 3, none⟩ = some (.int .i64 z3)) := fun W hW =>
  ⟨(h.on (Below.on hb hW)).cell he, ((h.on (Below.on hb hW)).wlt he (mem_wb.2 (.inl rfl))).2, (hc.on hW).lt, (hc.on hW).cell 0, (hc.on hW).cell 1, (hc.on hW).cell 2, (hc.on hW).cell 3⟩
 have HO : Hid (∀ W : World, Below w.heap.size w W → W.ownsRow base 54 4 (.slice e.s.pe.dm.a e.s.pe.dm.n e.s.pe.dm.c) e.s.pe.dm.n (mcs e.s.pe.dm.l) ∧ base ≤ W.heap.size) := fun W hW => ⟨((h.on (Below.on hb hW)).rows id e he).dm, by
  have := (h.on (Below.on hb hW)).lt.1
  have := h.lop
  omega⟩
 obtain ⟨i0, hi, hz0, hz1, hz2⟩ := infoMP infoM4
 clear h he hb hc
 go_enter Tryz.func89, Tryz.ntmps89
 go_upto_region 0 with fail
 refine wp_region_gate_drew (g := 7) (S := RowKit.Below w.heap.size w) (by kernel_rfl) ?hh (fun hHeld => ?_)
 case hh => exact ((Below.refl _ _).drew)
 generalize w.drew = W0 at hHeld ⊢
 try dsimp only at hHeld
 refine wpAnyG_takeFree (i := 0) (v := ?_) rfl (by kernel_rfl) (by kernel_rfl) (by kernel_rfl) (by kernel_rfl) (fun _ _ _ h => h) (Or.inl ⟨by kernel_rfl, ?hy0⟩) (by assumption) ?_
 case hy0 => (intro wI _; go_simp; try with_reducible rfl)
 try simp only [Act.put, lqA, lqB, lqD, lqE, lqF]
 refine wpAnyG_take (i := 1) (v := ?_) rfl (by kernel_rfl) (by kernel_rfl) (by kernel_rfl) (by kernel_rfl) (fun _ _ _ h => h) (Or.inl ⟨by kernel_rfl, ?hy1⟩) (by assumption) ?_
 case hy1 => (intro wI hSw; (try dsimp only at hSw); obtain ⟨t1, t2, t3, t4, t5, t6, t7⟩ := HC.out _ hSw; go_simp; try with_reducible rfl)
 try simp only [Act.put, lqA, lqB, lqC, lqD, lqE, lqF]
 refine wpAnyG_take (i := 2) (v := ?_) rfl (by kernel_rfl) (by kernel_rfl) (by kernel_rfl) (by kernel_rfl) (fun _ _ _ h => h) (Or.inl ⟨by kernel_rfl, ?hy2⟩) (by assumption) ?_
 case hy2 => (intro wI hSw; (try dsimp only at hSw); obtain ⟨t1, t2, t3, t4, t5, t6, t7⟩ := HC.out _ hSw; go_simp; try with_reducible rfl)
 try simp only [Act.put, lqA, lqB, lqC, lqD, lqE, lqF]
 refine wpAnyG_take (i := 3) (v := ?_) rfl (by kernel_rfl) (by kernel_rfl) (by kernel_rfl) (by kernel_rfl) (fun _ _ _ h => h) (Or.inl ⟨by kernel_rfl, ?hy3⟩) (by assumption) ?_
 case hy3 => (intro wI hSw; (try dsimp only at hSw); obtain ⟨t1, t2, t3, t4, t5, t6, t7⟩ := HC.out _ hSw; go_simp; try with_reducible rfl)
 try simp only [Act.put, lqA, lqB, lqC, lqD, lqE, lqF]
 refine wpAnyG_take (i := 4) (v := ?_) rfl (by kernel_rfl) (by kernel_rfl) (by kernel_rfl) (by kernel_rfl) (fun _ _ _ h => h) (Or.inl ⟨by kernel_rfl, ?hy4⟩) (by assumption) ?_
 case hy4 => (intro wI hSw; (try dsimp only at hSw); obtain ⟨t1, t2, t3, t4, t5, t6, t7⟩ := HC.out _ hSw; go_simp; try with_reducible rfl)
 try simp only [Act.put, lqA, lqB, lqC, lqD, lqE, lqF]
 refine wpAnyG_take (i := 5) (v := ?_) rfl (by kernel_rfl) (by kernel_rfl) (by kernel_rfl) (by kernel_rfl) (fun _ _ _ h => h) (Or.inl ⟨by kernel_rfl, ?hy5⟩) (by assumption) ?_
 case hy5 => (intro wI hSw; (try dsimp only at hSw); obtain ⟨t1, t2, t3, t4, t5, t6, t7⟩ := HC.out _ hSw; go_simp; try with_reducible rfl)
 try simp only [Act.put, lqA, lqB, lqC, lqD, lqE, lqF]
 refine wpAnyG_ready (rs := [6]) (by kernel_rfl) (by simp) ?_
 refine AllReadyG.cons rfl (fun K hK => ?_) AllReadyG.nil
 have hb := Below.on hHeld (bel_new W0 (.cells #[.int .i64 z0, .int .i64 z1, .int .i64 z2, .int .i64 z3] 54))
 have HS := hid (src4 W0 z0 z1 z2 z3)
 go_simp
 refine hK.out _ _ hb (fun _ => ?_)
 clear hK K hHeld
 generalize W0.alloc (.cells #[.int .i64 z0, .int .i64 z1, .int .i64 z2, .int .i64 z3] 54) = W6 at *
 have hHeld := hb
 clear hb
 try simp only [Act.put, lqA, lqB, lqC, lqD, lqE, lqF]
 have hG := hHeld
 clear hHeld
 have hHeld : True := trivial
 refine wpAnyG_gateOp rfl (by kernel_rfl) (fun K hK => ?_)
 refine step_appP _ (by kernel_rfl) (.tmp 7) (.tmp 9) 55 55 rfl base 54 i0 (.agg #[.int .i64 0, .int .i64 0, .int .i64 0, .int .i64 0]) 4 32 Tryz.underlying55 hi hz0 hz1 hz2 rfl _ _ _ (by simp [Act.eval]) (HO.out _ hG).1 _ _ _ (by simp [Act.eval]) HS.out (by simp only [maxLen]; omega) (fitsM (by omega) (by decide)) (HO.out _ hG).2 ?_
 intro v2 W7 o2 g2 p2
 obtain ⟨l2, rfl, d1, d2, d3, d4⟩ := HF.out _ _ _ hG o2 g2 p2
 have HX := hid d4
 clear d4 o2 g2 p2
 refine hK.out _ _ trivial (fun _ => ?_)
 clear hK K
 try simp only [Act.put, lqA, lqB, lqC, lqD, lqE, lqF]
 refine wpAnyH_take (i := 8) (v := ?_) rfl (by kernel_rfl) (by kernel_rfl) (by kernel_rfl) (fun _ _ _ h => h) (Or.inl ⟨by kernel_rfl, ?hy8⟩) (by assumption) ?_
 case hy8 => (intro wI hSw; (try dsimp only at hSw); go_simp; try with_reducible rfl)
 try simp only [Act.put, lqA, lqB, lqC, lqD, lqE, lqF]
 refine wpAnyH_take (i := 9) (v := ?_) rfl (by kernel_rfl) (by kernel_rfl) (by kernel_rfl) (fun _ _ _ h => h) (Or.inl ⟨by kernel_rfl, ?hy9⟩) (by assumption) ?_
 case hy9 => (intro wI hSw; (try dsimp only at hSw); go_simp; try with_reducible rfl)
 try simp only [Act.put, lqA, lqB, lqC, lqD, lqE, lqF]
 refine wpAnyH_ready (rs := [10]) (by kernel_rfl) (by simp) ?_
 refine AllReadyH.cons rfl (fun K hK => ?_) AllReadyH.nil
 go_simp
 refine hK.out _ _ trivial (fun _ => ?_)
 clear hK K
 try simp only [Act.put, lqA, lqB, lqC, lqD, lqE, lqF]
 refine wpAnyH_done (by kernel_rfl) ?_ _
 go_wp2_with fail
 go_end0
 exact ⟨rfl, HX.out⟩
theorem fdamage_any (hE : Fe w es) (h : Pf base w p m L) (id : Int) (hi : Bt id) (hn : ∀ e, gt L id = some e → e.s.pe.dm.n ≤ 1000000) (z0 z1 z2 z3 : Int) :
  Calls Tryz.prog 43 #[.pointer (some ⟨p, 0, none⟩), .int .i64 id, .agg #[.int .i64 z0, .int .i64 z1, .int .i64 z2, .int .i64 z3]] w fun e w' => e = .returned (erv es (hasE (pab L) id)) ∧ ∃ L', PfR base w p m L (upd (pab L) id (dmgS [z0, z1, z2, z3])) w' L' := by
 have hb := bel_new w (.cells #[.int .i64 z0, .int .i64 z1, .int .i64 z2, .int .i64 z3] 54)
 have HT := hid (fturn_any (hE.on hb) (h.on hb) id hi 89 #[.pointer (some ⟨w.heap.size, 0, none⟩)] (enters_of Tryz.func89 (by kernel_rfl) rfl) (fun w' => ∃ L', PfR base w p m L (upd (pab L) id (dmgS [z0, z1, z2, z3])) w' L')
  (fun hq q => ⟨L, (PfR.refl h (Below.on hb (below_drewN (Below.refl _ _) q))).as (by rw [upd, gt_pab, hq]; rfl)⟩)
  (fun e he q => fdmg1_any h he (Below.on hb (below_drewN (Below.refl _ _) q)) (hn e he) w.heap.size z0 z1 z2 z3 ((bk_new w _ _).on (below_drewN (Below.refl _ _) q))))
 clear hE h hb
 go_enter Tryz.func43, Tryz.ntmps43
 go_wp2_with fail
 refine HT.out.mono ?_
 rintro e w1 ⟨rfl, hx⟩
 have HX := hid hx
 clear hx
 go_wp2
 go_ret
 exact ⟨rfl, HX.out⟩
end
end Go.Proofs.YtkjempffidndeaaGreatDoor
