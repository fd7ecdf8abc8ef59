/- The program's forest: findSub, Synced, within, latest, reorder. -/
import Derived.Test.YtdgknofpkafppaaDoorBd
import Derived.OwnWalk
import Derived.Test.YtdgknofpkafppaaDoorBb
import Derived.Deep.AppendSrc
import Derived.Test.YtdgknofpkafppaaDoorBc
namespace Go.Proofs.YtdgknofpkafppaaDoor
open Go Go.RowKit

variable {base : Nat} {w w' : World} {p m : Nat} {L : Po} {id : Int} {es : List Addr}
theorem Pf.run (h : Pf base w p m L) {k : Int} (hi : Bt k) : (Instr.lookup 52 (.map (some m)) (.int .i64 k) false).run Tryd.prog w = .ok (ptv (pto L k)) w := by
  obtain ⟨D, ho, hA⟩ := h.look
  obtain ⟨v, ps, hrun, hv⟩ := ho.lookup (Maps.int_keyed Tryd.underlying3) Tryd.underlying52 (zPt w) (ptR_mk none) (kBt k hi)
  rw [(hA k).2] at hv
  obtain rfl := ptR_inv hv
  exact hrun
def fs1 (L : Po) (id : Int) : Option Nat := match gt L id with
  | none => none
  | some e => if e.s.par = 0 then none else some e.g
def fs2 (L : Po) (id : Int) : Option Nat := match gt L id with
  | none => none
  | some e => if e.s.par = 0 then none else pto L e.s.par

set_option maxRecDepth 100000 in
theorem ffindsub_any (hE : Fe w es) (h : Pf base w p m L) (id : Int) (hi : Bt id) (hp : ∀ e, gt L id = some e → Bt e.s.par) :
    Calls Tryd.prog 45 #[.pointer (some ⟨p, 0, none⟩), .int .i64 id] w fun e w' => e = .returned (.tuple #[ptv (fs1 L id), ptv (fs2 L id), erv es (unsE (pab L) id)]) ∧ ∃ q, w' = w.drewN q := by
  have HF := hid (ffind_any hE h id hi)
  cases hq : gt L id with
  | none =>
    have HS : Hid (pto L id = none ∧ hasE (pab L) id = 5) := ⟨by rw [pto, hq]; rfl, by rw [hasE, gt_pab, hq]; rfl⟩
    have HT : Hid (fs1 L id = none ∧ fs2 L id = none ∧ unsE (pab L) id = 5) := ⟨by rw [fs1, hq], by rw [fs2, hq], by rw [unsE, gt_pab, hq]; rfl⟩
    rw [HS.out.1, HS.out.2] at HF
    rw [HT.out.1, HT.out.2.1, HT.out.2.2]
    clear hq h hE HS HT hp
    go_enter Tryd.func45, Tryd.ntmps45
    go_wp2_with fail
    refine HF.out.mono ?_
    rintro e w1 ⟨rfl, q1, rfl⟩
    rw [ptv_none, erv_succ]
    go_wp2
    go_ret3
    exact ⟨rfl, q1, rfl⟩
  | some e =>
    have HS : Hid (pto L id = some e.g ∧ hasE (pab L) id = 0) := ⟨by rw [pto, hq]; rfl, by rw [hasE, gt_pab, hq]; rfl⟩
    rw [HS.out.1, HS.out.2] at HF
    have HC : Hid (∀ q, (w.drewN q).cell? ⟨e.g, 30, none⟩ = some (.int .i64 e.s.par)) := fun q => (h.drewN q).cell hq
    have hlt := (h.wlt hq (mem_wb.2 (.inl rfl))).2
    cases h0 : (e.s.par == 0)
    · have h0' : e.s.par ≠ 0 := by simpa using h0
      have HT : Hid (fs1 L id = some e.g ∧ fs2 L id = pto L e.s.par ∧ unsE (pab L) id = 0) := ⟨by rw [fs1, hq]; simp [h0'], by rw [fs2, hq]; simp [h0'], by rw [unsE, gt_pab, hq]; simp [Sr.f, h0']⟩
      rw [HT.out.1, HT.out.2.1, HT.out.2.2]
      have HR : Hid (∀ q, (Instr.lookup 52 (.map (some m)) (.int .i64 e.s.par) false).run Tryd.prog (w.drewN q) = .ok (ptv (pto L e.s.par)) (w.drewN q)) := fun q => (h.drewN q).run (hp e hq)
      have HM : Hid (∀ q, (w.drewN q).cell? ⟨p, 0, none⟩ = some (.map (some m))) := fun q => (h.drewN q).c0
      have hlp := h.lt.1
      clear hq h hE HS HT h0' hp
      go_enter Tryd.func45, Tryd.ntmps45
      go_wp2_with fail
      refine HF.out.mono ?_
      rintro e' w1 ⟨rfl, q1, rfl⟩
      have c1 := HC.out q1
      have c2 := HM.out q1
      have c3 := HR.out q1
      have c4 := HC.out (q1 + 1)
      have c5 := HM.out (q1 + 1)
      have c6 := HR.out (q1 + 1)
      rw [ptv_some, erv0]
      go_wp2_with fail
      go_region
      go_wp2_with fail
      go_ret3
      exact ⟨rfl, q1 + 1, rfl⟩
    · have h0' : e.s.par = 0 := by simpa using h0
      have HT : Hid (fs1 L id = none ∧ fs2 L id = none ∧ unsE (pab L) id = 10) := ⟨by rw [fs1, hq]; simp [h0'], by rw [fs2, hq]; simp [h0'], by rw [unsE, gt_pab, hq]; simp [Sr.f, h0']⟩
      rw [HT.out.1, HT.out.2.1, HT.out.2.2]
      have cr := hE.rol
      have hlr := World.block_lt_of_cell? _ _ hE.rol
      clear hq h hE HS HT h0' hp
      go_enter Tryd.func45, Tryd.ntmps45
      go_wp2_with fail
      refine HF.out.mono ?_
      rintro e' w1 ⟨rfl, q1, rfl⟩
      have c1 := HC.out q1
      rw [ptv_some, erv0]
      go_wp2_with fail
      go_region
      go_wp2_with fail
      go_ret3
      exact ⟨rfl, q1 + 1, rfl⟩

set_option maxRecDepth 100000 in
set_option maxHeartbeats 1000000 in
theorem fsynced_any (hE : Fe w es) (h : Pf base w p m L) (hA : Acy (pab L)) (hP : ∀ x e, gt L x = some e → Bt e.s.par) : ∀ (d : Nat) (x : Int), Bt x → dpt (pab L) x ≤ d → ∀ q0,
    Calls Tryd.prog 16 #[.pointer (some ⟨p, 0, none⟩), .int .i64 x] (w.drewN q0) fun e w' => e = .returned (.bool (sy (pab L) x)) ∧ ∃ q, w' = w.drewN q := by
  intro d
  induction d with
  | zero =>
    intro x hx hd q0
    have HF := hid (ffindsub_any (hE.drewN q0) (h.drewN q0) x hx (hP x))
    have hn : gt (pab L) x = none := by
      cases hg : gt (pab L) x with
      | none => rfl
      | some s =>
        have := dpt_lt hA hg
        omega
    have hn' : gt L x = none := by
      rw [gt_pab] at hn
      exact Option.map_eq_none_iff.1 hn
    have HT : Hid (fs1 L x = none ∧ fs2 L x = none ∧ unsE (pab L) x = 5) := ⟨by rw [fs1, hn'], by rw [fs2, hn'], by rw [unsE, hn]⟩
    rw [HT.out.1, HT.out.2.1, HT.out.2.2] at HF
    rw [sy_none hn]
    clear hn hn' HT h hE hP hA
    go_enter Tryd.func16, Tryd.ntmps16
    go_wp2_with fail
    refine HF.out.mono ?_
    rintro e w1 ⟨rfl, q1, rfl⟩
    rw [ptv_none, erv_succ]
    go_wp2
    go_ret
    exact ⟨rfl, q0 + q1, by simp⟩
  | succ d ih =>
    intro x hx hd q0
    have HF := hid (ffindsub_any (hE.drewN q0) (h.drewN q0) x hx (hP x))
    cases hq : gt L x with
    | none =>
      have hn : gt (pab L) x = none := by rw [gt_pab, hq]; rfl
      have HT : Hid (fs1 L x = none ∧ fs2 L x = none ∧ unsE (pab L) x = 5) := ⟨by rw [fs1, hq], by rw [fs2, hq], by rw [unsE, hn]⟩
      rw [HT.out.1, HT.out.2.1, HT.out.2.2] at HF
      rw [sy_none hn]
      clear hn hq HT h hE hP hA ih
      go_enter Tryd.func16, Tryd.ntmps16
      go_wp2_with fail
      refine HF.out.mono ?_
      rintro e w1 ⟨rfl, q1, rfl⟩
      rw [ptv_none, erv_succ]
      go_wp2
      go_ret
      exact ⟨rfl, q0 + q1, by simp⟩
    | some e =>
      have hs : gt (pab L) x = some e.s.f := by rw [gt_pab, hq]; rfl
      cases h0 : (e.s.par == 0)
      · have h0' : e.s.par ≠ 0 := by simpa using h0
        have HT : Hid (fs1 L x = some e.g ∧ fs2 L x = pto L e.s.par ∧ unsE (pab L) x = 0) := ⟨by rw [fs1, hq]; simp [h0'], by rw [fs2, hq]; simp [h0'], by rw [unsE, hs]; simp [Sr.f, h0']⟩
        rw [HT.out.1, HT.out.2.1, HT.out.2.2] at HF
        have c1 : w.cell? ⟨e.g, 30, none⟩ = some (.int .i64 e.s.par) := h.cell hq
        have c2 : w.cell? ⟨e.g, 31, none⟩ = some (.bool e.s.syn) := h.cell hq
        have hlt := (h.wlt hq (mem_wb.2 (.inl rfl))).2
        have hdp : dpt (pab L) e.s.par ≤ d := by
          have := dpt_lt hA hs
          simp only [Sr.f] at this
          omega
        have HI := hid (ih e.s.par (hP x e hq) hdp)
        have HY : Hid (sy (pab L) x = (e.s.syn || sy (pab L) e.s.par)) := by
          rw [Hid, sy_some hs]
          simp [Sr.f, h0']
        clear HT h hE hP hA ih hs hq hdp
        rw [HY.out]
        clear HY
        cases hsy : e.s.syn
        · rw [hsy] at c2
          go_enter Tryd.func16, Tryd.ntmps16
          go_wp2_with fail
          refine HF.out.mono ?_
          rintro e' w1 ⟨rfl, q1, rfl⟩
          rw [ptv_some, erv0]
          go_wp2_with fail
          have hd2 : (w.drewN q0).drewN q1 = w.drewN (q0 + q1) := by simp
          refine (HI.out (q0 + q1)).mono ?_
          rintro e' w2 ⟨rfl, q2, rfl⟩
          go_wp2
          go_ret
          exact ⟨by simp, q2, rfl⟩
        · rw [hsy] at c2
          go_enter Tryd.func16, Tryd.ntmps16
          go_wp2_with fail
          refine HF.out.mono ?_
          rintro e' w1 ⟨rfl, q1, rfl⟩
          rw [ptv_some, erv0]
          go_wp2
          go_ret
          exact ⟨by simp, q0 + q1, by simp⟩
      · have h0' : e.s.par = 0 := by simpa using h0
        have HT : Hid (fs1 L x = none ∧ fs2 L x = none ∧ unsE (pab L) x = 10) := ⟨by rw [fs1, hq]; simp [h0'], by rw [fs2, hq]; simp [h0'], by rw [unsE, hs]; simp [Sr.f, h0']⟩
        rw [HT.out.1, HT.out.2.1, HT.out.2.2] at HF
        have HY : Hid (sy (pab L) x = false) := by
          rw [Hid, sy_some hs]
          simp [Sr.f, h0']
        rw [HY.out]
        clear HT h hE hP hA ih hs hq HY
        go_enter Tryd.func16, Tryd.ntmps16
        go_wp2_with fail
        refine HF.out.mono ?_
        rintro e w1 ⟨rfl, q1, rfl⟩
        rw [ptv_none, erv_succ]
        go_wp2
        go_ret
        exact ⟨rfl, q0 + q1, by simp⟩
end Go.Proofs.YtdgknofpkafppaaDoor

/- The program's forest: within, latest, reorder, Sync, turn, Attach, Frame. -/
namespace Go.Proofs.YtdgknofpkafppaaDoor
open Go Go.RowKit

variable {base : Nat} {w0 w w' : World} {p m : Nat} {L : Po} {id : Int} {es : List Addr} {e : Ps}
/-- What the program needs of a forest's numbers. -/
structure Nok (L : Po) : Prop where
  acy : Acy (pab L)
  zero : gt L 0 = none
  par : ∀ x e, gt L x = some e → e.s.par = 0 ∨ (gt L e.s.par).isSome = true
  key : ∀ x e, gt L x = some e → Bt x ∧ Bt e.s.par

set_option maxRecDepth 100000 in
set_option maxHeartbeats 1000000 in
theorem fwithin_any (hE : Fe w es) (h : Pf base w p m L) (hN : Nok L) (x o : Int) (hx : (gt L x).isSome = true) :
    Calls Tryd.prog 29 #[.pointer (some ⟨p, 0, none⟩), .int .i64 x, .int .i64 o] w fun e w' => e = .returned (.bool (anc (pab L) x o)) ∧ ∃ q, w' = w.drewN q := by
  have HE := hid hE
  have H := hid h
  have HN := hid hN
  obtain ⟨ex, hex⟩ := Option.isSome_iff_exists.1 hx
  have hbx := (hN.key x ex hex).1
  clear hE h hN hex ex
  go_enter Tryd.func29, Tryd.ntmps29
  go_wp2
  go_loopw [1] (fun r wr => ∃ (y : Int) (q : Nat), r = .int .i64 y ∧ Bt y ∧ (y = 0 ∨ (gt L y).isSome = true) ∧ anc (pab L) x o = anc (pab L) y o ∧ wr = w.drewN q) (fun r _ => dpt (pab L) (numOf r))
  case atStart => exact ⟨x, 0, rfl, hbx, .inr hx, rfl, rfl⟩
  case round =>
    obtain ⟨y, q, rfl, hby, hy, hanc, rfl⟩ := hrel
    cases h0 : (y != 0)
    · have h0' : y = 0 := by simpa using h0
      have HA : Hid (anc (pab L) x o = false) := by
        rw [Hid, hanc, h0', anc_none (by rw [gt_pab, HN.out.zero]; rfl)]
      clear hanc hy
      go_wp2
      go_ret
      rw [HA.out]
      exact ⟨rfl, q, rfl⟩
    · have h0' : y ≠ 0 := by simpa using h0
      obtain ⟨ey, hey⟩ := Option.isSome_iff_exists.1 (hy.resolve_left h0')
      have hs : gt (pab L) y = some ey.s.f := by rw [gt_pab, hey]; rfl
      have ha := anc_some hs o
      cases h1 : (y == o)
      · have HA : Hid (anc (pab L) x o = anc (pab L) ey.s.par o) := by rw [Hid, hanc, ha, h1]; rfl
        have HD : Hid (dpt (pab L) ey.s.par < dpt (pab L) y) := dpt_lt HN.out.acy hs
        have HP := hid (fparent_any (HE.out.drewN q) (H.out.drewN q) y hby)
        have HPE : Hid (parF (pab L) y = ey.s.par) := by rw [Hid, parF, hs]; rfl
        rw [HPE.out] at HP
        have HK := hid (HN.out.key y ey hey).2
        have HR := hid (HN.out.par y ey hey)
        clear hanc hy ha hs hey HPE h0'
        go_wp2_with fail
        refine HP.out.mono ?_
        rintro e w1 ⟨rfl, q1, rfl⟩
        go_wp2
        go_roundw
        case rel => exact ⟨ey.s.par, q + q1, rfl, HK.out, HR.out, HA.out, by simp⟩
        case measure =>
          simp only [numOf]
          exact HD.out
      · have HA : Hid (anc (pab L) x o = true) := by rw [Hid, hanc, ha, h1]; rfl
        clear hanc hy ha hs hey h0'
        go_wp2
        go_ret
        rw [HA.out]
        exact ⟨rfl, q, rfl⟩

set_option maxRecDepth 100000 in
theorem flatest_any (h : Pf base w p m L) (he : gt L id = some e) :
    Calls Tryd.prog 32 #[.pointer (some ⟨e.g, 0, none⟩)] w fun e' w' => e' = .returned (latS e.s).v ∧ w' = w := by
  have c1 : w.cell? ⟨e.g, 7, none⟩ = some (.bool e.s.pe.ord) := h.cell he
  have c2 : w.cell? ⟨e.g, 8, none⟩ = some (.slice e.s.pe.od.a e.s.pe.od.n e.s.pe.od.c) := h.cell he
  have c3 : w.cell? ⟨e.g, 17, none⟩ = some (.bool e.s.ca.ord) := h.cell he
  have c4 : w.cell? ⟨e.g, 18, none⟩ = some (.slice e.s.ca.od.a e.s.ca.od.n e.s.ca.od.c) := h.cell he
  have c5 : w.cell? ⟨e.g, 28, none⟩ = some (.slice e.s.no.od.a e.s.no.od.n e.s.no.od.c) := h.cell he
  have hlt := (h.wlt he (mem_wb.2 (.inl rfl))).2
  have HL : Hid (latS e.s = bif e.s.pe.ord then e.s.pe.od else bif e.s.ca.ord then e.s.ca.od else e.s.no.od) := rfl
  clear h he
  generalize latS e.s = ls at *
  rw [Sl.v]
  go_enter Tryd.func32, Tryd.ntmps32
  cases h1 : e.s.pe.ord with
  | true =>
    rw [h1] at HL
    have hl : ls = e.s.pe.od := HL.out
    subst hl
    go_wp2
    go_ret
    exact ⟨rfl, rfl⟩
  | false =>
    cases h2 : e.s.ca.ord with
    | true =>
      rw [h1, h2] at HL
      have hl : ls = e.s.ca.od := HL.out
      subst hl
      go_wp2
      go_ret
      exact ⟨rfl, rfl⟩
    | false =>
      rw [h1, h2] at HL
      have hl : ls = e.s.no.od := HL.out
      subst hl
      go_wp2
      go_ret
      exact ⟨rfl, rfl⟩

set_option maxRecDepth 100000 in
theorem freorder_any (h : Pf base w0 p m L) (he : gt L id = some e) (hb : Below w0.heap.size w0 w) (l : Sl) (hl : RdM 1 w l.a l.n l.c l.l) (hn : ∀ y, l.a = some y → 0 < l.n → w0.heap.size ≤ y.block) :
    Calls Tryd.prog 30 #[.pointer (some ⟨e.g, 0, none⟩), .slice l.a l.n l.c] w fun e' w' => e' = .returned undef ∧ PfR base w0 p m L (upd (pab L) id (ordS l.l)) w' (st L id ⟨e.g, { e.s with pe := { e.s.pe with ord := true, od := l } }⟩) := by
  have HR := hid (h.putOd he hb l hl hn)
  have hw := h.on hb
  have c1 : w.cell? ⟨e.g, 7, none⟩ = some (.bool e.s.pe.ord) := hw.cell he
  have c2 : w.cell? ⟨e.g, 8, none⟩ = some (.slice e.s.pe.od.a e.s.pe.od.n e.s.pe.od.c) := hw.cell he
  have f1 := hw.fz he
  have hlt := (hw.wlt he (mem_wb.2 (.inl rfl))).2
  clear hw h hl hn hb
  go_enter Tryd.func30, Tryd.ntmps30
  go_wp2
  go_end0
  exact ⟨rfl, HR.out⟩

theorem pab_synF (he : gt L id = some e) (h0 : e.s.par ≠ 0) (on : Bool) : upd (pab L) id (fun s => { s with syn := on }) = synF (pab L) id on := by
  rw [upd, synF, gt_pab, he]
  simp [Sr.f, h0]
set_option maxRecDepth 100000 in
theorem fsync_any (hE : Fe w es) (h : Pf base w p m L) (id : Int) (hi : Bt id) (hp : ∀ e, gt L id = some e → Bt e.s.par) (on : Bool) :
    Calls Tryd.prog 18 #[.pointer (some ⟨p, 0, none⟩), .int .i64 id, .bool on] w fun e w' => e = .returned (erv es (unsE (pab L) id)) ∧ ∃ L', PfR base w p m L (synF (pab L) id on) w' L' := by
  have HF := hid (ffindsub_any hE h id hi hp)
  cases hq : gt L id with
  | none =>
    have HT : Hid (fs1 L id = none ∧ fs2 L id = none ∧ unsE (pab L) id = 5) := ⟨by rw [fs1, hq], by rw [fs2, hq], by rw [unsE, gt_pab, hq]; rfl⟩
    have HX : Hid (∀ q, PfR base w p m L (synF (pab L) id on) (w.drewN q) L) := fun q => (PfR.refl h (below_drewN (Below.refl _ _) q)).as (by rw [synF, gt_pab, hq]; rfl)
    rw [HT.out.1, HT.out.2.1, HT.out.2.2] at HF
    rw [HT.out.2.2]
    clear hq h hE HT hp
    go_enter Tryd.func18, Tryd.ntmps18
    go_wp2_with fail
    refine HF.out.mono ?_
    rintro e w1 ⟨rfl, q1, rfl⟩
    rw [ptv_none, erv_succ]
    go_wp2
    go_ret
    exact ⟨rfl, L, HX.out q1⟩
  | some e =>
    cases h0 : (e.s.par == 0)
    · have h0' : e.s.par ≠ 0 := by simpa using h0
      have HT : Hid (fs1 L id = some e.g ∧ unsE (pab L) id = 0) := ⟨by rw [fs1, hq]; simp [h0'], by rw [unsE, gt_pab, hq]; simp [Sr.f, h0']⟩
      rw [HT.out.1, HT.out.2] at HF
      rw [HT.out.2]
      have HX : Hid (∀ q, ∃ L', PfR base w p m L (synF (pab L) id on) ((w.drewN q).setCell ⟨e.g, 31, none⟩ (.bool on)) L') := fun q => ⟨_, (h.putSyn hq (below_drewN (Below.refl _ _) q) on).as (pab_synF hq h0' on)⟩
      have c1 : w.cell? ⟨e.g, 31, none⟩ = some (.bool e.s.syn) := h.cell hq
      have f1 := h.fz hq
      have hlt := (h.wlt hq (mem_wb.2 (.inl rfl))).2
      generalize fs2 L id = f2 at HF
      clear hq h hE HT hp h0' h0
      go_enter Tryd.func18, Tryd.ntmps18
      go_wp2_with fail
      refine HF.out.mono ?_
      rintro e' w1 ⟨rfl, q1, rfl⟩
      rw [ptv_some, erv0]
      go_wp2
      go_ret
      exact ⟨rfl, HX.out q1⟩
    · have h0' : e.s.par = 0 := by simpa using h0
      have HT : Hid (fs1 L id = none ∧ fs2 L id = none ∧ unsE (pab L) id = 10) := ⟨by rw [fs1, hq]; simp [h0'], by rw [fs2, hq]; simp [h0'], by rw [unsE, gt_pab, hq]; simp [Sr.f, h0']⟩
      have HX : Hid (∀ q, PfR base w p m L (synF (pab L) id on) (w.drewN q) L) := fun q => (PfR.refl h (below_drewN (Below.refl _ _) q)).as (by rw [synF, gt_pab, hq]; simp [Sr.f, h0'])
      rw [HT.out.1, HT.out.2.1, HT.out.2.2] at HF
      rw [HT.out.2.2]
      clear hq h hE HT hp h0'
      go_enter Tryd.func18, Tryd.ntmps18
      go_wp2_with fail
      refine HF.out.mono ?_
      rintro e w1 ⟨rfl, q1, rfl⟩
      rw [ptv_none, erv_succ]
      go_wp2
      go_ret
      exact ⟨rfl, L, HX.out q1⟩

set_option maxRecDepth 100000 in
/-- turn, by a function of one pointer that is held. -/
theorem fturn_any (hE : Fe w es) (h : Pf base w p m L) (id : Int) (hi : Bt id) (g : Nat) (lb : Array Value) (eg : ∀ args w, (callFunc g args).run Tryd.prog w = .ok (.enter g args) w) (T : World → Prop)
    (hno : gt L id = none → ∀ q, T (w.drewN q))
    (hg : ∀ e, gt L id = some e → ∀ q, Calls Tryd.prog g (#[.pointer (some ⟨e.g, 0, none⟩)] ++ lb) (w.drewN q) fun e' w' => e' = .returned undef ∧ T w') :
    Calls Tryd.prog 34 #[.pointer (some ⟨p, 0, none⟩), .int .i64 id, .func (.func g) #[] lb] w fun e w' => e = .returned (erv es (hasE (pab L) id)) ∧ T w' := by
  have HF := hid (ffind_any hE h id hi)
  cases hq : gt L id with
  | none =>
    have HS : Hid (pto L id = none ∧ hasE (pab L) id = 5) := ⟨by rw [pto, hq]; rfl, by rw [hasE, gt_pab, hq]; rfl⟩
    have HX := hid (hno hq)
    rw [HS.out.1, HS.out.2] at HF
    rw [HS.out.2]
    clear hq h hE HS hno hg
    go_enter Tryd.func34, Tryd.ntmps34
    go_wp2_with fail
    refine HF.out.mono ?_
    rintro e w1 ⟨rfl, q1, rfl⟩
    rw [ptv_none, erv_succ]
    go_wp2
    go_ret
    exact ⟨rfl, HX.out q1⟩
  | some e =>
    have HS : Hid (pto L id = some e.g ∧ hasE (pab L) id = 0) := ⟨by rw [pto, hq]; rfl, by rw [hasE, gt_pab, hq]; rfl⟩
    have HX := hid (hg e hq)
    have hlt := (h.wlt hq (mem_wb.2 (.inl rfl))).2
    have c1 : w.cell? ⟨e.g, 0, none⟩ = some (.bool e.s.pe.at_) := h.cell hq
    rw [HS.out.1, HS.out.2] at HF
    rw [HS.out.2]
    clear hq h hE HS hno hg
    go_enter Tryd.func34, Tryd.ntmps34
    go_wp2_with fail
    refine HF.out.mono ?_
    rintro e' w1 ⟨rfl, q1, rfl⟩
    rw [ptv_some, erv0]
    go_wp2_with fail
    refine (HX.out q1).mono ?_
    rintro e' w2 ⟨rfl, hT⟩
    have HT := hid hT
    clear hT
    go_wp2
    go_ret
    exact ⟨rfl, HT.out⟩
end Go.Proofs.YtdgknofpkafppaaDoor

/- Append on a row of one's own, with the place where the new row lies (stage 5's, over any program). -/
namespace Go.Proofs.YtdgknofpkafppaaDoor
open Go Go.RowKit

section
variable {P : Program} (w : World)
/-- As 'run_append_own_src', and where the new row lies. -/
theorem run_append_own_at (base : Nat) (t tx ty e : TypeId) (i : TypeInfo) (z : Value) (size bytes : Nat) (ht : P.underlying t = some (.slice e)) (hi : P.info? e = some i) (hz : i.zero = some z)
    (hsize : i.size = size) (hby : i.bytes = bytes) (hzs : z.cells.size = size)
    (v : Value) (n : Nat) (xs : List Value) (hown : w.ownsRow base e size v n xs)
    (x : Value) (m : Nat) (news : List Value) (hs : Src P size tx x m news w)
    (h63 : n + m ≤ maxLen) (hbytes : ∀ old, old < n + m → Builtin.nextslicecap (n + m) old * bytes ≤ 281474976710656) (hbase : base ≤ w.heap.size) :
    ∃ v' w', (Builtin.append_ #[t, tx] ty #[v, x]).run P w = .ok v' w' ∧ w'.ownsRow base e size v' (n + m) (xs ++ news) ∧ w.grownBy w' v.ownBlock ∧ (v'.ownBlock = v.ownBlock ∨ v'.ownBlock = some w.heap.size) := by
  obtain ⟨v', w', hr, h1, h2⟩ := run_append_own_src (P := P) w base t tx ty e i z size bytes ht hi hz hsize hby hzs v n xs hown x m news hs h63 hbytes hbase
  refine ⟨v', w', hr, h1, h2, ?_⟩
  subst hsize
  subst hby
  have hl := hs.newsLen
  have hsmall : n + m ≤ 9223372036854775807 := by simp only [maxLen] at h63; omega
  rcases hown.2 with ⟨rfl, rfl⟩ | ⟨g, cap, cur, rfl, hbg, hg, hnc, hcm, hcs, htake⟩
  · by_cases hm : m = 0
    · subst hm
      have hn : news = [] := List.eq_nil_of_length_eq_zero (by simpa using hl)
      subst hn
      have hr' : (Builtin.append_ #[t, tx] ty #[.slice none 0 0, x]).run P w = .ok (.slice none 0 0) w := by
        rcases hs.kind with ⟨e', hk⟩ | hk <;> simp [Builtin.append_, run_underlying ht, run_underlying hk, sizeOf, typeInfo, hi, hs.len, hs.cells]
      have := hr.symm.trans hr'
      simp only [Result.ok.injEq] at this
      exact .inl (by rw [this.1])
    · have hr' := run_append_grow_src (P := P) w t tx ty e i z ht hi hz none 0 0 [] (run_firstCells_none w.drew i.size 0 0 0) x m news hs (by omega) (by omega) (hbytes _ (by omega))
      have := hr.symm.trans hr'
      simp only [Result.ok.injEq] at this
      exact .inr (by rw [this.1]; rfl)
  · by_cases hroom : n + m ≤ cap
    · have hfit : n * i.size + news.length ≤ cur.size := by rw [hl, hcs, ← Nat.add_mul]; exact Nat.mul_le_mul_right _ hroom
      have hr' := run_append_room_own (P := P) (ty := ty) w t tx e i ht hi g n cap cur hg x m news hs hroom hfit
      have := hr.symm.trans hr'
      simp only [Result.ok.injEq] at this
      exact .inl (by rw [this.1]; rfl)
    · have holds : ∀ j u, xs[j]? = some u → w.cell? ((⟨g, 0, none⟩ : Addr).add j) = some u := hown.cells (g := g) rfl
      have hold := run_firstCells_some (P := P) w.drew i.size n ⟨g, 0, none⟩ n cap xs hown.1 (by simpa using holds)
      have hr' := run_append_grow_src (P := P) w t tx ty e i z ht hi hz (some ⟨g, 0, none⟩) n cap xs hold x m news hs (by omega) (by omega) (hbytes _ (by omega))
      have := hr.symm.trans hr'
      simp only [Result.ok.injEq] at this
      exact .inr (by rw [this.1]; rfl)

theorem wpList_append_own_at {ops : Array Oper} {rest : List Oper} {o : Oper} {a : Act} {Q : Exit → Act → World → Prop} (hgd : o.guard = none) (s x : Operand) (t tx : TypeId)
    (ho : o.op = .call { callee := .builtin .append, args := #[s, x], argTypes := #[t, tx] })
    (base : Nat) (e : TypeId) (i : TypeInfo) (z : Value) (size bytes : Nat) (ht : P.underlying t = some (.slice e)) (hi : P.info? e = some i) (hz : i.zero = some z)
    (hsize : i.size = size) (hby : i.bytes = bytes) (hzs : z.cells.size = size)
    (v : Value) (n : Nat) (xs : List Value) (hs : a.eval s = v) (hown : w.ownsRow base e size v n xs)
    (xv : Value) (m : Nat) (news : List Value) (hx : a.eval x = xv) (hsrc : Src P size tx xv m news w)
    (h63 : n + m ≤ maxLen) (hbytes : ∀ old, old < n + m → Builtin.nextslicecap (n + m) old * bytes ≤ 281474976710656) (hbase : base ≤ w.heap.size)
    (h : ∀ v' w', w'.ownsRow base e size v' (n + m) (xs ++ news) → w.grownBy w' v.ownBlock → (v'.ownBlock = v.ownBlock ∨ v'.ownBlock = some w.heap.size) → wpList P ops Q rest (a.put o.dst v') w') : wpList P ops Q (o :: rest) a w :=
  wpList_plain hgd fun K hK => by
    obtain ⟨v', w', hr, h2, h3, h4⟩ := run_append_own_at (P := P) w base t tx o.type e i z size bytes ht hi hz hsize hby hzs v n xs hown xv m news hsrc h63 hbytes hbase
    unfold Oper.wp execOp
    simp only [ho, resolve, invoke, builtin, Sem.run_bind, Sem.run_pure, Result.andThen_ok, List.map_toArray, List.map_cons, List.map_nil, hs, hx, hr]
    exact hK _ _ (h v' w' h2 h3 h4)

/-- As 'step_appG', and where the new row lies. -/
theorem step_appP {ops : Array Oper} {o : Oper} {a : Act} {K : Act → World → Prop} {Q : Exit → Act → World → Prop} {E : Prop}
    (hwt : Region.wanted o (yielded ops a.tmps) = true) (s x : Operand) (t tx : TypeId) (hop : o.op = .call { callee := .builtin .append, args := #[s, x], argTypes := #[t, tx] })
    (base : Nat) (e : TypeId) (i : TypeInfo) (z : Value) (size bytes : Nat) (ht : P.underlying t = some (.slice e)) (hi : P.info? e = some i) (hz : i.zero = some z)
    (hsize : i.size = size) (hby : i.bytes = bytes) (hzs : z.cells.size = size)
    (v : Value) (n : Nat) (xs : List Value) (hs : a.eval s = v) (hown : w.ownsRow base e size v n xs)
    (xv : Value) (m : Nat) (news : List Value) (hx : a.eval x = xv) (hsrc : Src P size tx xv m news w)
    (h63 : n + m ≤ maxLen) (hbytes : ∀ old, old < n + m → Builtin.nextslicecap (n + m) old * bytes ≤ 281474976710656) (hbase : base ≤ w.heap.size)
    (h : ∀ v' w', w'.ownsRow base e size v' (n + m) (xs ++ news) → w.grownBy w' v.ownBlock → (v'.ownBlock = v.ownBlock ∨ v'.ownBlock = some w.heap.size) → K (a.put o.dst v') w') :
    if Region.wanted o (yielded ops a.tmps) = true then Oper.wp P o a w K Q else E := by
  rw [if_pos hwt]
  obtain ⟨v', w', hr, h2, h3, h4⟩ := run_append_own_at (P := P) w base t tx o.type e i z size bytes ht hi hz hsize hby hzs v n xs hown xv m news hsrc h63 hbytes hbase
  unfold Oper.wp
  simp [execOp, hop, resolve, invoke, builtin, hs, hx, hr, Result.andThen]
  exact h v' w' h2 h3 h4
end
end Go.Proofs.YtdgknofpkafppaaDoor

/- The program's forest: Attach, Frame, Damage. Written by forest/mk_pfg.py. -/
namespace Go.Proofs.YtdgknofpkafppaaDoor
open Go Go.RowKit

variable {base : Nat} {w0 w w' : World} {p m : Nat} {L : Po} {id : Int} {es : List Addr} {e : Ps}
/-- A row of one's own as a slice. -/
theorem own_sl {w : World} {base T m n : Nat} {v : Value} {l : List (List Int)} (h : w.ownsRow base T m v n (mcs l)) (hn : l.length = n) (hs : ∀ y ∈ l, y.length = m) : ∃ s : Sl, v = s.v ∧ s.n = n ∧ s.l = l ∧ RdM m w s.a s.n s.c s.l ∧ w.ownsRow base T m s.v s.n (mcs s.l) := by
  subst hn
  rcases h.2 with ⟨rfl, h0⟩ | ⟨g, cap, cur, rfl, hb, hg, hn, hm, _, _⟩
  · have hl := List.eq_nil_of_length_eq_zero h0
    subst hl
    exact ⟨sl0, rfl, rfl, rfl, RdM.nil m w, h⟩
  · refine ⟨⟨some ⟨g, 0, none⟩, l.length, cap, l⟩, rfl, rfl, rfl, ⟨rfl, hn, hm, (fun h => by cases h), fun _ => ⟨g, 0, rfl, (h.lt g rfl).2, fun j y hy i z hz => ?_⟩, hs⟩, h⟩
    have hlt : j * m + i < l.length * m := by
      rw [← mcs_length hs]
      exact (List.getElem?_eq_some_iff.1 (mcs_at hs hy hz)).1
    rw [Nat.zero_add, h.cellAt _ hlt]
    exact mcs_at hs hy hz

set_option maxRecDepth 100000 in
theorem fatt1_any (h : Pf base w0 p m L) (he : gt L id = some e) (hb : Below w0.heap.size w0 w) (c : Nat) (b : Int) (hc : w.cell? ⟨c, 0, none⟩ = some (.int .i64 b)) (hce : c ≠ e.g) :
    Calls Tryd.prog 35 (#[.pointer (some ⟨e.g, 0, none⟩)] ++ #[.pointer (some ⟨c, 0, none⟩)]) w fun e' w' => e' = .returned undef ∧ ∃ L', PfR base w0 p m L (upd (pab L) id (attS b)) w' L' := by
  have HR := hid (h.putAtt he (w := w.drew) (Below.on hb (Below.refl _ _).drew) b)
  have hw := h.on hb
  have c1 : w.cell? ⟨e.g, 0, none⟩ = some (.bool e.s.pe.at_) := hw.cell he
  have c2 : w.cell? ⟨e.g, 1, none⟩ = some (.int .i64 e.s.pe.buf) := hw.cell he
  have f1 := hw.fz he
  have hlt := (hw.wlt he (mem_wb.2 (.inl rfl))).2
  have hlc := World.block_lt_of_cell? _ _ hc
  clear hw h hb he
  go_enter Tryd.func35, Tryd.ntmps35
  go_wp2_with fail
  go_region
  go_wp2_with fail
  go_end0
  exact ⟨rfl, _, HR.out⟩
set_option maxRecDepth 100000 in
theorem fattach_any (hE : Fe w es) (h : Pf base w p m L) (id : Int) (hi : Bt id) (b : Int) :
    Calls Tryd.prog 11 #[.pointer (some ⟨p, 0, none⟩), .int .i64 id, .int .i64 b] w fun e w' => e = .returned (erv es (hasE (pab L) id)) ∧ ∃ L', PfR base w p m L (upd (pab L) id (attS b)) w' L' := by
  have hb := bel_new w (.cells #[.int .i64 b] 3)
  have HT := hid (fturn_any (hE.on hb) (h.on hb) id hi 35 #[.pointer (some ⟨w.heap.size, 0, none⟩)] (enters_of Tryd.func35 (by kernel_rfl) rfl) (fun w' => ∃ L', PfR base w p m L (upd (pab L) id (attS b)) w' L')
    (fun hq q => ⟨L, (PfR.refl h (Below.on hb (below_drewN (Below.refl _ _) q))).as (by rw [upd, gt_pab, hq]; rfl)⟩)
    (fun e he q => fatt1_any h he (Below.on hb (below_drewN (Below.refl _ _) q)) w.heap.size b (by
      simp) (fun e1 => by have := (h.wlt he (mem_wb.2 (.inl rfl))).2; omega)))
  clear hE h hb
  go_enter Tryd.func11, Tryd.ntmps11
  go_wp2_with fail
  refine HT.out.mono ?_
  rintro e w1 ⟨rfl, hx⟩
  have HX := hid hx
  clear hx
  go_wp2
  go_ret
  exact ⟨rfl, HX.out⟩

/-- What Frame's closure leaves. -/
theorem ffrm_fin (h : Pf base w0 p m L) (he : gt L id = some e) {W w1 : World} (hb : Below w0.heap.size w0 W) (b : Int) {v' : Value} (ho : w1.ownsRow base 3 1 v' (e.s.pe.fr.n + 1) (mcs e.s.pe.fr.l ++ mcs [[b]])) (hg : W.grownBy w1 e.s.pe.fr.v.ownBlock) (hv : v'.ownBlock = e.s.pe.fr.v.ownBlock ∨ v'.ownBlock = some W.heap.size) :
    ∃ l : Sl, v' = .slice l.a l.n l.c ∧ w1.cell? ⟨e.g, 3, none⟩ = some (.slice e.s.pe.fr.a e.s.pe.fr.n e.s.pe.fr.c) ∧ (∀ j, w1.frozen? ⟨e.g, j, none⟩ = false) ∧ e.g < w1.heap.size ∧ ∃ L', PfR base w0 p m L (upd (pab L) id (frmS b)) (w1.setCell ⟨e.g, 3, none⟩ (.slice l.a l.n l.c)) L' := by
  have hW := h.on hb
  have hok := (hW.rows id e he)
  have hlen := hok.ok.pe.fr.len
  obtain ⟨l, rfl, hn, hl, hr, ho2⟩ := own_sl (l := e.s.pe.fr.l ++ [[b]]) (by rw [mcs_append]; exact ho) (by rw [List.length_append, hlen]; rfl) (fun y hy => by
    rcases List.mem_append.1 hy with hy | hy
    · exact hok.ok.pe.fr.size y hy
    · simp only [List.mem_cons, List.not_mem_nil, or_false] at hy
      rw [hy]
      rfl)
  have hge : some e.g ≠ e.s.pe.fr.v.ownBlock := fun e1 => (h.sep id e he).1.g e.s.pe.fr (by simp [wos]) (bl_mem.2 e1.symm)
  have hobj : w1.heap[e.g]? = W.heap[e.g]? := hg.block _ (hW.wlt he (mem_wb.2 (.inl rfl))).2 hge
  have hB : Bk w1 e.g 58 (pcs e.s).toArray := ⟨hobj.trans (hW.srf id e he)⟩
  refine ⟨l, rfl, hB.cell 3, fun j => hB.fz j, hB.lt, _, h.putFr he hb ho2 hr hg (fun x hx => ?_) hl⟩
  rcases hv with h1 | h1
  · rw [bl_mem, h1] at hx
    exact .inl (bl_mem.2 hx)
  · rw [bl_mem, h1] at hx
    cases hx
    exact .inr hb.size
set_option maxRecDepth 100000 in
set_option maxHeartbeats 1000000 in
theorem ffrm1_any (h : Pf base w0 p m L) (he : gt L id = some e) (hb : Below w0.heap.size w0 w) (hn : e.s.pe.fr.n ≤ 1000000) (c : Nat) (b : Int) (hc : w.cell? ⟨c, 0, none⟩ = some (.int .i64 b)) :
    Calls Tryd.prog 66 (#[.pointer (some ⟨e.g, 0, none⟩)] ++ #[.pointer (some ⟨c, 0, none⟩)]) w fun e' w' => e' = .returned undef ∧ ∃ L', PfR base w0 p m L (upd (pab L) id (frmS b)) w' L' := by
  have HF : Hid (∀ (W w1 : World) (v' : Value), Below w.heap.size w W → w1.ownsRow base 3 1 v' (e.s.pe.fr.n + 1) (mcs e.s.pe.fr.l ++ ic [b]) → W.grownBy w1 e.s.pe.fr.v.ownBlock → (v'.ownBlock = e.s.pe.fr.v.ownBlock ∨ v'.ownBlock = some W.heap.size) → ∃ l : Sl, v' = .slice l.a l.n l.c ∧ w1.cell? ⟨e.g, 3, none⟩ = some (.slice e.s.pe.fr.a e.s.pe.fr.n e.s.pe.fr.c) ∧ (∀ j, w1.frozen? ⟨e.g, j, none⟩ = false) ∧ e.g < w1.heap.size ∧ ∃ L', PfR base w0 p m L (upd (pab L) id (frmS b)) (w1.setCell ⟨e.g, 3, none⟩ (.slice l.a l.n l.c)) L') := fun W w1 v' hW ho hg hv => ffrm_fin h he (Below.on hb hW) b ho hg hv
  have HC : Hid (∀ W : World, Below w.heap.size w W → W.cell? ⟨e.g, 3, none⟩ = some (.slice e.s.pe.fr.a e.s.pe.fr.n e.s.pe.fr.c) ∧ W.cell? ⟨c, 0, none⟩ = some (.int .i64 b) ∧ e.g < W.heap.size ∧ c < W.heap.size) := fun W hW =>
    ⟨(h.on (Below.on hb hW)).cell he, by rw [hW.cell (World.block_lt_of_cell? _ _ hc)]; exact hc, ((h.on (Below.on hb hW)).wlt he (mem_wb.2 (.inl rfl))).2, Nat.lt_of_lt_of_le (World.block_lt_of_cell? _ _ hc) hW.size⟩
  have HO : Hid (∀ W : World, Below w.heap.size w W → W.ownsRow base 3 1 (.slice e.s.pe.fr.a e.s.pe.fr.n e.s.pe.fr.c) e.s.pe.fr.n (mcs e.s.pe.fr.l) ∧ base ≤ W.heap.size) := fun W hW => ⟨((h.on (Below.on hb hW)).rows id e he).fr, by
    have := (h.on (Below.on hb hW)).lt.1
    have := h.lop
    omega⟩
  obtain ⟨i0, hi, hz0, hz1, hz2⟩ := infoMP infoM1
  clear h he hb hc
  go_enter Tryd.func66, Tryd.ntmps66
  go_upto_region 0 with fail
  refine wp_region_gate_drew (g := 7) (S := RowKit.Below w.heap.size w) (by kernel_rfl) ?hh (fun hHeld => ?_)
  case hh => exact ((Below.refl _ _).drew)
  generalize w.drew = W0 at hHeld ⊢
  try dsimp only at hHeld
  refine wpAnyG_takeFree (i := 0) (v := ?_) rfl (by kernel_rfl) (by kernel_rfl) (by kernel_rfl) (by kernel_rfl) (fun _ _ _ h => h) (Or.inl ⟨by kernel_rfl, ?hy0⟩) (by assumption) ?_
  case hy0 => (intro wI _; go_simp; try with_reducible rfl)
  try simp only [Act.put, List.getElem_toArray, List.getElem_cons_zero, List.setIfInBounds_toArray, List.set_cons_zero, List.set_cons_succ]
  refine wpAnyG_take (i := 1) (v := ?_) rfl (by kernel_rfl) (by kernel_rfl) (by kernel_rfl) (by kernel_rfl) (fun _ _ _ h => h) (Or.inl ⟨by kernel_rfl, ?hy1⟩) (by assumption) ?_
  case hy1 => (intro wI hSw; (try dsimp only at hSw); obtain ⟨t1, t2, t3, t4⟩ := HC.out _ hSw; go_simp; try with_reducible rfl)
  try simp only [Act.put, List.getElem_toArray, List.getElem_cons_zero, List.getElem_cons_succ, List.setIfInBounds_toArray, List.set_cons_zero, List.set_cons_succ]
  refine wpAnyG_take (i := 2) (v := ?_) rfl (by kernel_rfl) (by kernel_rfl) (by kernel_rfl) (by kernel_rfl) (fun _ _ _ h => h) (Or.inl ⟨by kernel_rfl, ?hy2⟩) (by assumption) ?_
  case hy2 => (intro wI hSw; (try dsimp only at hSw); obtain ⟨t1, t2, t3, t4⟩ := HC.out _ hSw; go_simp; try with_reducible rfl)
  try simp only [Act.put, List.getElem_toArray, List.getElem_cons_zero, List.getElem_cons_succ, List.setIfInBounds_toArray, List.set_cons_zero, List.set_cons_succ]
  refine wpAnyG_take (i := 3) (v := ?_) rfl (by kernel_rfl) (by kernel_rfl) (by kernel_rfl) (by kernel_rfl) (fun _ _ _ h => h) (Or.inl ⟨by kernel_rfl, ?hy3⟩) (by assumption) ?_
  case hy3 => (intro wI hSw; (try dsimp only at hSw); obtain ⟨t1, t2, t3, t4⟩ := HC.out _ hSw; go_simp; try with_reducible rfl)
  try simp only [Act.put, List.getElem_toArray, List.getElem_cons_zero, List.getElem_cons_succ, List.setIfInBounds_toArray, List.set_cons_zero, List.set_cons_succ]
  refine wpAnyG_take (i := 4) (v := ?_) rfl (by kernel_rfl) (by kernel_rfl) (by kernel_rfl) (by kernel_rfl) (fun _ _ _ h => h) (Or.inl ⟨by kernel_rfl, ?hy4⟩) (by assumption) ?_
  case hy4 => (intro wI hSw; (try dsimp only at hSw); obtain ⟨t1, t2, t3, t4⟩ := HC.out _ hSw; go_simp; try with_reducible rfl)
  try simp only [Act.put, List.getElem_toArray, List.getElem_cons_zero, List.getElem_cons_succ, List.setIfInBounds_toArray, List.set_cons_zero, List.set_cons_succ]
  refine wpAnyG_take (i := 5) (v := ?_) rfl (by kernel_rfl) (by kernel_rfl) (by kernel_rfl) (by kernel_rfl) (fun _ _ _ h => h) (Or.inl ⟨by kernel_rfl, ?hy5⟩) (by assumption) ?_
  case hy5 => (intro wI hSw; (try dsimp only at hSw); obtain ⟨t1, t2, t3, t4⟩ := HC.out _ hSw; go_simp; try with_reducible rfl)
  try simp only [Act.put, List.getElem_toArray, List.getElem_cons_zero, List.getElem_cons_succ, List.setIfInBounds_toArray, List.set_cons_zero, List.set_cons_succ]
  refine wpAnyG_ready (rs := [6]) (by kernel_rfl) (by simp) ?_
  refine AllReadyG.cons rfl (fun K hK => ?_) AllReadyG.nil
  have hb := Below.on hHeld (bel_new W0 (.cells #[.int .i64 b] 3))
  have HS := hid (srcLit W0 b)
  go_simp
  refine hK.out _ _ hb (fun _ => ?_)
  clear hK K hHeld
  generalize W0.alloc (.cells #[.int .i64 b] 3) = W6 at *
  have hHeld := hb
  clear hb
  try simp only [Act.put, List.getElem_toArray, List.getElem_cons_zero, List.getElem_cons_succ, List.setIfInBounds_toArray, List.set_cons_zero, List.set_cons_succ]
  have hG := hHeld
  clear hHeld
  have hHeld : True := trivial
  refine wpAnyG_gateOp rfl (by kernel_rfl) (fun K hK => ?_)
  refine step_appP _ (by kernel_rfl) (.tmp 7) (.tmp 9) 22 22 rfl base 3 i0 (.int .i64 0) 1 8 Tryd.underlying22 hi hz0 hz1 hz2 rfl _ _ _ (by simp [Act.eval]) (HO.out _ hG).1 _ _ _ (by simp [Act.eval]) HS.out (by simp only [maxLen]; omega) (fitsM (by omega) (by decide)) (HO.out _ hG).2 ?_
  intro v2 W7 o2 g2 p2
  obtain ⟨l2, rfl, d1, d2, d3, d4⟩ := HF.out _ _ _ hG o2 g2 p2
  have HX := hid d4
  clear d4 o2 g2 p2
  refine hK.out _ _ trivial (fun _ => ?_)
  clear hK K
  try simp only [Act.put, List.getElem_toArray, List.getElem_cons_zero, List.getElem_cons_succ, List.setIfInBounds_toArray, List.set_cons_zero, List.set_cons_succ]
  refine wpAnyH_take (i := 8) (v := ?_) rfl (by kernel_rfl) (by kernel_rfl) (by kernel_rfl) (fun _ _ _ h => h) (Or.inl ⟨by kernel_rfl, ?hy8⟩) (by assumption) ?_
  case hy8 => (intro wI hSw; (try dsimp only at hSw); go_simp; try with_reducible rfl)
  try simp only [Act.put, List.getElem_toArray, List.getElem_cons_zero, List.getElem_cons_succ, List.setIfInBounds_toArray, List.set_cons_zero, List.set_cons_succ]
  refine wpAnyH_take (i := 9) (v := ?_) rfl (by kernel_rfl) (by kernel_rfl) (by kernel_rfl) (fun _ _ _ h => h) (Or.inl ⟨by kernel_rfl, ?hy9⟩) (by assumption) ?_
  case hy9 => (intro wI hSw; (try dsimp only at hSw); go_simp; try with_reducible rfl)
  try simp only [Act.put, List.getElem_toArray, List.getElem_cons_zero, List.getElem_cons_succ, List.setIfInBounds_toArray, List.set_cons_zero, List.set_cons_succ]
  refine wpAnyH_ready (rs := [10]) (by kernel_rfl) (by simp) ?_
  refine AllReadyH.cons rfl (fun K hK => ?_) AllReadyH.nil
  go_simp
  refine hK.out _ _ trivial (fun _ => ?_)
  clear hK K
  try simp only [Act.put, List.getElem_toArray, List.getElem_cons_zero, List.getElem_cons_succ, List.setIfInBounds_toArray, List.set_cons_zero, List.set_cons_succ]
  refine wpAnyH_done (by kernel_rfl) ?_ _
  go_wp2_with fail
  go_end0
  exact ⟨rfl, HX.out⟩
set_option maxRecDepth 100000 in
theorem fframe_any (hE : Fe w es) (h : Pf base w p m L) (id : Int) (hi : Bt id) (hn : ∀ e, gt L id = some e → e.s.pe.fr.n ≤ 1000000) (b : Int) :
    Calls Tryd.prog 46 #[.pointer (some ⟨p, 0, none⟩), .int .i64 id, .int .i64 b] w fun e w' => e = .returned (erv es (hasE (pab L) id)) ∧ ∃ L', PfR base w p m L (upd (pab L) id (frmS b)) w' L' := by
  have hb := bel_new w (.cells #[.int .i64 b] 3)
  have HT := hid (fturn_any (hE.on hb) (h.on hb) id hi 66 #[.pointer (some ⟨w.heap.size, 0, none⟩)] (enters_of Tryd.func66 (by kernel_rfl) rfl) (fun w' => ∃ L', PfR base w p m L (upd (pab L) id (frmS b)) w' L')
    (fun hq q => ⟨L, (PfR.refl h (Below.on hb (below_drewN (Below.refl _ _) q))).as (by rw [upd, gt_pab, hq]; rfl)⟩)
    (fun e he q => ffrm1_any h he (Below.on hb (below_drewN (Below.refl _ _) q)) (hn e he) w.heap.size b (by simp)))
  clear hE h hb
  go_enter Tryd.func46, Tryd.ntmps46
  go_wp2_with fail
  refine HT.out.mono ?_
  rintro e w1 ⟨rfl, hx⟩
  have HX := hid hx
  clear hx
  go_wp2
  go_ret
  exact ⟨rfl, HX.out⟩

end Go.Proofs.YtdgknofpkafppaaDoor

/- The program's orders: Drop, insert. -/
namespace Go.Proofs.YtdgknofpkafppaaDoor
open Go Go.RowKit

/-- How many a slice has. -/
def slN : Value → Nat
  | .slice _ n _ => n
  | _ => 0

/-- Between two cuts. -/
structure Dri (w : World) (k : Int) (l0 : List Int) (lv rv : Value) (wr : World) : Prop where
  ex : ∃ a n c l r, lv = .slice a n c ∧ Rz w a n c l ∧ OwZ w wr rv r ∧ r ++ dr k l = dr k l0 ∧ r.length + n ≤ l0.length

set_option maxRecDepth 100000 in
set_option maxHeartbeats 1000000 in
theorem odrop_any (a : Option Addr) (n c : Nat) (l : List Int) (k : Int) (w : World) (p : Addr) (hp : Pl w p) (h : Rz w a n c l) (hn : n ≤ 1000000) :
    Calls Tryd.prog 55 #[.slice a n c, .int .i64 k] w fun e w' => ∃ v, e = .returned v ∧ OwZ w w' v (dr k l) := by
  obtain ⟨i0, hi, hz0, hz1, hz2⟩ := infoZp
  obtain ⟨w1, hmk, ho1⟩ := make0Z w n (by omega)
  have hl0 := h.len
  have HP := hid hp
  have HI : Hid (Dri w k l (.slice a n c) (.slice (some ⟨w.heap.size, 0, none⟩) 0 n) w1) := ⟨a, n, c, l, [], rfl, h, ho1, rfl, by simp [hl0]⟩
  have hl1 : l.length ≤ 1000000 := by omega
  clear h hp ho1 hl0
  go_enter Tryd.func55, Tryd.ntmps55
  go_wp2
  go_loopw [0, 5] (fun lv rv wr => Dri w k l lv rv wr) (fun lv _ _ => slN lv)
  case atStart => exact HI.out
  case round =>
    obtain ⟨a, m, c, l', r, rfl, hr, ho, hd, hlen⟩ := hrel.ex
    have hm := hr.small
    have hle := hr.le
    have HL := hid hr.len
    have HR := hid hr
    have HO := hid ho
    have HD := hid hd
    have HB := hid ho.bel
    have hp2 := HP.out.on ho.bel
    have HF := hid (ofirst_any a m c l' k wr p hp2 (hr.on ho.bel))
    have HC : Hid (∀ q, (wr.drewN q).cell? ⟨4, 0, none⟩ = some (.iface 151 (.pointer (some p)))) := fun q => (hp2.drewN q).c
    obtain ⟨av, cv, rfl, -, -⟩ := ho.rd
    clear hrel hr ho hd hp2 HI hmk
    cases hx : zx k l' with
    | some i =>
      rw [fstV_some hx] at HF
      obtain ⟨x1, x2, x3, x4⟩ := zx_some hx
      have hi1 : i < m := by rw [← HL.out]; exact x1
      obtain ⟨b, off, z, rfl, -, -, -⟩ := HR.out.at_ hi1
      have HS : Hid (∀ q, Src Tryd.prog 1 22 (.slice (some ⟨b, off, none⟩) i c) i (ic (l'.take i)) (wr.drewN q)) := fun q => (((HR.out.on HB.out).drewN q).take i (by omega)).src Tryd.underlying22
      have HN : Hid (∀ q u v, u.ownsRow w.heap.size 3 1 v (r.length + i) (ic r ++ ic (l'.take i)) → (wr.drewN q).grownBy u (Value.slice av r.length cv).ownBlock → ∃ av2 cv2, v = .slice av2 (r.length + i) cv2 ∧ Hid (Dri w k l (.slice (some ⟨b, off + (i + 1), none⟩) (m - (i + 1)) (c - (i + 1))) (.slice av2 (r.length + i) cv2) u) ∧ Hid (c = i + 1 → Dri w k l (.slice (some ⟨b, off, none⟩) 0 0) (.slice av2 (r.length + i) cv2) u)) := fun q u v o2 g2 => by
        have hti : (l'.take i).length = i := by rw [List.length_take, HL.out]; omega
        have ho2 := (HO.out.on (below_drewN (Below.refl _ _) q)).grown hti o2 g2
        obtain ⟨av2, cv2, rfl, -, -⟩ := ho2.rd
        have hlen2 : (r ++ l'.take i).length = r.length + i := by rw [List.length_append, hti]
        rw [hlen2] at ho2 ⊢
        have e : (r ++ l'.take i) ++ dr k (l'.drop (i + 1)) = dr k l := by rw [← HD.out, x3, List.append_assoc]
        refine ⟨av2, cv2, rfl, ⟨_, _, _, l'.drop (i + 1), r ++ l'.take i, rfl, HR.out.drop (i + 1) (by omega), ho2, e, by rw [hlen2]; omega⟩, fun hc => ?_⟩
        have h1 : l'.drop (i + 1) = [] := List.drop_eq_nil_of_le (by rw [HL.out]; omega)
        rw [h1] at e
        exact ⟨_, _, _, [], r ++ l'.take i, rfl, Rz.zero _ _, ho2, e, by rw [hlen2]; omega⟩
      have e1 : (i : Int) + 1 ≤ 9223372036854775807 := by omega
      have hws := HB.out.size
      have HSI : Hid (r.length + i ≤ 1000000) := by rw [Hid]; omega
      have HOW : Hid (∀ q, (wr.drewN q).ownsRow w.heap.size 3 1 (.slice av r.length cv) r.length (ic r)) := fun q => ownsRow_below HO.out.own (below_drewN (Below.refl _ _) q)
      clear hx x1 x2 x3 x4 HR HO HD HB HP HL
      by_cases hck : c = i + 1
      · subst hck
        go_wp2_with fail
        refine HF.out.mono ?_
        rintro e w2 ⟨rfl, q, rfl⟩
        have c0 := HC.out q
        go_wp2_with fail
        refine (isz_nil p _).mono ?_
        rintro e w3 ⟨rfl, rfl⟩
        go_wp2_with (at_builtin; refine wpList_append_own_src _ rfl (.tmp 23) (.tmp 26) 22 22 rfl w.heap.size 3 i0 (.int .i64 0) 1 8 Tryd.underlying22 hi hz0 hz1 hz2 rfl _ _ _ rfl (HOW.out q) _ _ _ rfl (HS.out q) (by simp only [maxLen]; have := HSI.out; omega) (fitsZ (by have := HSI.out; omega)) hws ?_; intro v3 w3 o3 g3; obtain ⟨av2, cv2, rfl, HY, HX⟩ := HN.out _ _ _ o3 g3; clear o3 g3)
        exact ⟨HX.out trivial, by simp only [slN]; omega⟩
      · go_wp2_with fail
        refine HF.out.mono ?_
        rintro e w2 ⟨rfl, q, rfl⟩
        have c0 := HC.out q
        go_wp2_with fail
        refine (isz_nil p _).mono ?_
        rintro e w3 ⟨rfl, rfl⟩
        go_wp2_with (at_builtin; refine wpList_append_own_src _ rfl (.tmp 23) (.tmp 26) 22 22 rfl w.heap.size 3 i0 (.int .i64 0) 1 8 Tryd.underlying22 hi hz0 hz1 hz2 rfl _ _ _ rfl (HOW.out q) _ _ _ rfl (HS.out q) (by simp only [maxLen]; have := HSI.out; omega) (fitsZ (by have := HSI.out; omega)) hws ?_; intro v3 w3 o3 g3; obtain ⟨av2, cv2, rfl, HY, HX⟩ := HN.out _ _ _ o3 g3; clear o3 g3)
        exact ⟨HY.out, by simp only [slN]; omega⟩
    | none =>
      rw [fstV_none hx] at HF
      have hdr := dr_not (zx_none.1 hx)
      have HS : Hid (∀ q, Src Tryd.prog 1 22 (.slice a m c) m (ic l') (wr.drewN q)) := fun q => ((HR.out.on HB.out).drewN q).src Tryd.underlying22
      have hws := HB.out.size
      have HN : Hid (∀ q u v, u.ownsRow w.heap.size 3 1 v (r.length + m) (ic r ++ ic l') → (wr.drewN q).grownBy u (Value.slice av r.length cv).ownBlock → OwZ w u v (dr k l)) := fun q u v o2 g2 => by
        have ho2 := (HO.out.on (below_drewN (Below.refl _ _) q)).grown HL.out o2 g2
        rw [← HD.out, hdr]
        exact ho2
      have HOW : Hid (∀ q, (wr.drewN q).ownsRow w.heap.size 3 1 (.slice av r.length cv) r.length (ic r)) := fun q => ownsRow_below HO.out.own (below_drewN (Below.refl _ _) q)
      clear hx hdr HR HO HD HB HP HL
      go_wp2_with fail
      refine HF.out.mono ?_
      rintro e w2 ⟨rfl, q, rfl⟩
      have c0 := HC.out q
      go_wp2_with fail
      refine (is_same p _).mono ?_
      rintro e w3 ⟨rfl, rfl⟩
      go_wp2_with (at_builtin; refine wpList_append_own_src _ rfl (.tmp 20) (.tmp 21) 22 22 rfl w.heap.size 3 i0 (.int .i64 0) 1 8 Tryd.underlying22 hi hz0 hz1 hz2 rfl _ _ _ rfl (HOW.out q) _ _ _ rfl (HS.out q) (by simp only [maxLen]; omega) (fitsZ (by omega)) hws ?_; intro v3 w3 o3 g3; have HZ := hid (HN.out _ _ _ o3 g3); clear o3 g3)
      go_ret
      exact ⟨_, rfl, HZ.out⟩
end Go.Proofs.YtdgknofpkafppaaDoor

/- The program's orders: insert, Top, beside, Above, Below. -/
namespace Go.Proofs.YtdgknofpkafppaaDoor
open Go Go.RowKit

theorem ins_cells (l : List Int) (i : Nat) (z : Int) (hi : i ≤ l.length) (Z : List Value) (hZ : Z.length = l.length + 1) : splice (splice (splice Z 0 (ic (l.take i))) i [.int .i64 z]) (i + 1) (ic (l.drop i)) = ic (ins l i z) := by
  rw [splice_splice_splice Z _ _ _ i 1 (by rw [ic_length, List.length_take]; omega) rfl (by rw [ic_length, List.length_drop]; omega), ins, ic_append]
  rfl
theorem splice_one {cur : List Value} {j : Nat} (hj : j < cur.length) (u : Value) : cur.toArray.setIfInBounds j u = (splice cur j [u]).toArray := by
  apply Array.ext'
  simp only [Array.toList_setIfInBounds, splice, List.length_cons, List.length_nil]
  rw [List.set_eq_take_append_cons_drop, if_pos hj]
  rfl
theorem owz_of {w u : World} {l : List Int} (hb : Below w.heap.size w u) (hg : u.heap[w.heap.size]? = some (.cells (ic l).toArray 3 (0, 0))) (hm : l.length ≤ maxLen) : OwZ w u (.slice (some ⟨w.heap.size, 0, none⟩) l.length l.length) l :=
  ⟨⟨by rw [ic_length, Nat.mul_one], .inr ⟨w.heap.size, l.length, _, rfl, Nat.le_refl _, hg, Nat.le_refl _, hm, by rw [List.size_toArray, ic_length, Nat.mul_one], by rw [Nat.mul_one, List.take_of_length_le (by rw [ic_length]; exact Nat.le_refl _)]⟩⟩, hb⟩

/-- 'copy' into a row that is known whole. -/
theorem copyZ (u : World) (g off : Nat) (cur : List Value) (hg : u.heap[g]? = some (.cells cur.toArray 3 (0, 0))) (dp : Option Addr) (dLen dCap : Nat) (sp : Option Addr) (m c : Nat) (l : List Int) (hr : Rz u sp m c l) (hm : m ≤ dLen) (hpos : 0 < m → dp = some ⟨g, off, none⟩) (hfit : off + m ≤ cur.length) {B : Nat} {w0 : World} (hb : Below B w0 u) (hBg : B ≤ g) :
    ∃ U, (∀ ty : TypeId, (Builtin.copy_ #[22, 22] ty #[.slice dp dLen dCap, .slice sp m c]).run Tryd.prog u = .ok (goInt m) U) ∧ U.heap[g]? = some (.cells (splice cur off (ic l)).toArray 3 (0, 0)) ∧ Below B w0 U := by
  have hl := hr.len
  have hil : (ic l).length = m := by rw [ic_length, hl]
  rcases Nat.eq_zero_or_pos m with h0 | h0
  · subst h0
    obtain rfl : l = [] := List.eq_nil_of_length_eq_zero hl
    exact ⟨u, fun ty => run_copy_none (P := Tryd.prog) u _ _ ty 3 _ _ _ _ _ _ Tryd.underlying22 sizeZ (Nat.zero_min _), by simpa [splice, ic] using hg, hb⟩
  · obtain rfl := hpos h0
    obtain ⟨ad, rfl, hc⟩ := hr.copies (by omega)
    refine ⟨u.setRow g (splice cur off (ic l)).toArray, fun ty => ?_, setRow_heap u g _ _ 3 _ hg, below_setRow hb hBg _⟩
    have := run_copy_row (P := Tryd.prog) u 22 22 ty 3 g off dLen dCap ad m c cur.toArray 3 (ic l) Tryd.underlying22 sizeZ hg (by rw [hil]; exact (Nat.min_eq_left hm).symm) hc (by rw [List.size_toArray, hil]; exact hfit) (ic_one l)
    rw [this, hil, splice, List.append_assoc, hil]

set_option maxRecDepth 100000 in
set_option maxHeartbeats 1000000 in
theorem oinsert_any (a : Option Addr) (n c : Nat) (l : List Int) (i : Nat) (z : Int) (w : World) (h : Rz w a n c l) (hi : i ≤ n) (hn : n ≤ 1000000) :
    Calls Tryd.prog 56 #[.slice a n c, .int .i64 i, .int .i64 z] w fun e w' => ∃ v, e = .returned v ∧ OwZ w w' v (ins l i z) := by
  obtain ⟨w1, hmk, hb1, hg1⟩ := makeZ w (n + 1) (by omega)
  rw [show ((n + 1 : Nat) : Int) = (n : Int) + 1 by omega] at hmk
  have hm := h.small
  have hle := h.le
  have hlen := h.len
  have hs1 := hb1.size
  obtain ⟨cur, hcur⟩ : ∃ cur, cur = ic (List.replicate (n + 1) 0) := ⟨_, rfl⟩
  have hcl : cur.length = n + 1 := by rw [hcur, ic_length, List.length_replicate]
  rw [← hcur] at hg1
  obtain ⟨w2, hcp2, hg2, hb2⟩ := copyZ w1 w.heap.size 0 cur hg1 (some ⟨w.heap.size, 0, none⟩) (n + 1) (n + 1) a i c (l.take i) ((h.on hb1).take i hi) (by omega) (fun _ => rfl) (by omega) hb1 (Nat.le_refl _)
  have hc2 : (splice cur 0 (ic (l.take i))).length = n + 1 := by rw [length_splice _ _ _ (by rw [ic_length, List.length_take]; omega), hcl]
  have hf2 : ∀ j, w2.frozen? ⟨w.heap.size, j, none⟩ = false := fun j => frozen_of_row w2 _ j _ _ hg2
  have hs2 : w.heap.size < w2.heap.size := (Array.getElem?_eq_some_iff.1 hg2).1
  have hb3 := hb2.setCell (p := ⟨w.heap.size, i, none⟩) (Nat.le_refl _) (.int .i64 z)
  have hg3 := heap_setCell_same w2 w.heap.size i _ 3 (.int .i64 z) hg2
  rw [splice_one (by omega)] at hg3
  obtain ⟨v0, hv0⟩ : ∃ v, w2.cell? ⟨w.heap.size, i, none⟩ = some v := by
    rw [cell_of_row w2 _ i _ _ _ hg2]
    exact ⟨_, Array.getElem?_eq_getElem (by rw [List.size_toArray, hc2]; omega)⟩
  obtain ⟨k, hk⟩ : ∃ k, k = i + 1 := ⟨_, rfl⟩
  obtain ⟨cur3, hc3⟩ : ∃ cur3, cur3 = splice (splice cur 0 (ic (l.take i))) i [.int .i64 z] := ⟨_, rfl⟩
  obtain ⟨X2, hX2⟩ : ∃ X2, X2 = ic (l.drop i) := ⟨_, rfl⟩
  rw [← hc3] at hg3
  have HL3 : Hid (cur3.length = n + 1) := by rw [Hid, hc3, length_splice _ _ _ (by rw [List.length_singleton]; omega), hc2]
  have HL2 : Hid (X2.length = n - i) := by rw [Hid, hX2, ic_length, List.length_drop, hlen]
  have HO2 : Hid (∀ v ∈ X2, v.oneCell' = true) := by rw [Hid, hX2]; exact ic_one _
  have HG3 : Hid ((w2.setCell ⟨w.heap.size, i, none⟩ (.int .i64 z)).drew.heap[w.heap.size]? = some (.cells cur3.toArray 3 (0, 0))) := hg3
  have HB3 := hid hb3.drew
  have HE : Hid (∀ u, Below w.heap.size w u → u.heap[w.heap.size]? = some (.cells (splice cur3 k X2).toArray 3 (0, 0)) → OwZ w u (.slice (some ⟨w.heap.size, 0, none⟩) (n + 1) (n + 1)) (ins l i z)) := fun u hu hg => by
    rw [hc3, hX2, hk, ins_cells l i z (by omega) cur (by omega)] at hg
    have := owz_of hu hg (by rw [ins_length]; simp only [maxLen]; omega)
    rwa [ins_length, hlen] at this
  have HS : Hid (∀ sp, sp = (if c = i then a else Option.map (fun x => x.add i) a) → i < n → ∃ ad, sp = some ad ∧ ∀ j v, X2[j]? = some v → (w2.setCell ⟨w.heap.size, i, none⟩ (.int .i64 z)).drew.cell? (ad.add j) = some v) := fun sp e hlt => by
    obtain ⟨b, off, e1, _⟩ := h.pl (by omega)
    subst e1
    rw [if_neg (by omega), Option.map_some, Go.WideShapes.add_plain] at e
    subst e
    obtain ⟨ad, h1, h2⟩ := ((h.on hb3.drew).drop i hi).copies (by rw [ic_length, List.length_drop]; omega)
    cases h1
    rw [hX2]
    exact ⟨_, rfl, h2⟩
  have e1 : IntKind.i64.wrap ((i : Int) + 1) = (k : Int) := by
    rw [IntKind.wrap_i64]
    omega
  have e2 : (k : Int) ≤ (n : Int) + 1 := by omega
  have e3 : (i : Int) ≤ n := by omega
  have hkn : k ≤ n + 1 := by omega
  have HK := hid hk
  clear hg1 hg2 hg3 hb1 hb2 hb3 hcur hcl hc2 h hc3 hX2 hk
  go_enter Tryd.func56, Tryd.ntmps56
  go_wp2
  refine wp_region_held_drew (S := fun _ => True) (by kernel_rfl) ?hh (fun hHeld => ?_)
  case hh => exact (trivial)
  try dsimp only at hHeld
  refine wpAnyH_take (i := 0) (v := ?_) rfl (by kernel_rfl) (by kernel_rfl) (by kernel_rfl) (fun _ _ _ h => h) (Or.inl ⟨by kernel_rfl, ?hy0⟩) (by assumption) ?_
  case hy0 => (intro wI hSw; (try dsimp only at hSw); go_simp; try with_reducible rfl)
  try simp only [Act.put, List.getElem_toArray, List.getElem_cons_zero, List.setIfInBounds_toArray, List.set_cons_zero, List.set_cons_succ]
  refine wpAnyH_take (i := 1) (v := ?_) rfl (by kernel_rfl) (by kernel_rfl) (by kernel_rfl) (fun _ _ _ h => h) (Or.inl ⟨by kernel_rfl, ?hy1⟩) (by assumption) ?_
  case hy1 => (intro wI hSw; (try dsimp only at hSw); go_simp; try with_reducible rfl)
  try simp only [Act.put, List.getElem_toArray, List.getElem_cons_zero, List.getElem_cons_succ, List.setIfInBounds_toArray, List.set_cons_zero, List.set_cons_succ]
  refine wpAnyH_take (i := 2) (v := ?_) rfl (by kernel_rfl) (by kernel_rfl) (by kernel_rfl) (fun _ _ _ h => h) (Or.inl ⟨by kernel_rfl, ?hy2⟩) (by assumption) ?_
  case hy2 => (intro wI hSw; (try dsimp only at hSw); go_simp; try with_reducible rfl)
  try simp only [Act.put, List.getElem_toArray, List.getElem_cons_zero, List.getElem_cons_succ, List.setIfInBounds_toArray, List.set_cons_zero, List.set_cons_succ]
  refine wpAnyH_take (i := 3) (v := ?_) rfl (by kernel_rfl) (by kernel_rfl) (by kernel_rfl) (fun _ _ _ h => h) (Or.inl ⟨by kernel_rfl, ?hy3⟩) (by assumption) ?_
  case hy3 => (intro wI hSw; (try dsimp only at hSw); go_simp; try with_reducible rfl)
  try simp only [Act.put, List.getElem_toArray, List.getElem_cons_zero, List.getElem_cons_succ, List.setIfInBounds_toArray, List.set_cons_zero, List.set_cons_succ]
  refine wpAnyH_take (i := 4) (v := ?_) rfl (by kernel_rfl) (by kernel_rfl) (by kernel_rfl) (fun _ _ _ h => h) (Or.inl ⟨by kernel_rfl, ?hy4⟩) (by assumption) ?_
  case hy4 => (intro wI hSw; (try dsimp only at hSw); go_simp; try with_reducible rfl)
  try simp only [Act.put, List.getElem_toArray, List.getElem_cons_zero, List.getElem_cons_succ, List.setIfInBounds_toArray, List.set_cons_zero, List.set_cons_succ]
  refine wpAnyH_take (i := 5) (v := ?_) rfl (by kernel_rfl) (by kernel_rfl) (by kernel_rfl) (fun _ _ _ h => h) (Or.inl ⟨by kernel_rfl, ?hy5⟩) (by assumption) ?_
  case hy5 => (intro wI hSw; (try dsimp only at hSw); go_simp; try with_reducible rfl)
  try simp only [Act.put, List.getElem_toArray, List.getElem_cons_zero, List.getElem_cons_succ, List.setIfInBounds_toArray, List.set_cons_zero, List.set_cons_succ]
  refine wpAnyH_take (i := 6) (v := ?_) rfl (by kernel_rfl) (by kernel_rfl) (by kernel_rfl) (fun _ _ _ h => h) (Or.inl ⟨by kernel_rfl, ?hy6⟩) (by assumption) ?_
  case hy6 => (intro wI hSw; (try dsimp only at hSw); go_simp; try with_reducible rfl)
  try simp only [Act.put, List.getElem_toArray, List.getElem_cons_zero, List.getElem_cons_succ, List.setIfInBounds_toArray, List.set_cons_zero, List.set_cons_succ]
  refine wpAnyH_ready (rs := [7]) (by kernel_rfl) (by simp) ?_
  refine AllReadyH.cons rfl (fun K hK => ?_) AllReadyH.nil
  refine step_copy_splice rfl (.tmp 24) (.tmp 27) 22 22 rfl 3 Tryd.underlying22 sizeZ (if n + 1 = k then some ⟨w.heap.size, 0, none⟩ else some ⟨w.heap.size, k, none⟩) (if c = i then a else Option.map (fun x => x.add i) a) (n + 1 - k) (n + 1 - k) (n - i) (c - i) rfl rfl w.heap.size k cur3 3 HG3.out X2 (by rw [HL2.out, HK.out]; simp) (fun h0 => ⟨if_neg (by rw [HL2.out] at h0; rw [HK.out]; omega), HS.out _ rfl (by rw [HL2.out] at h0; omega)⟩) (by rw [HL2.out, HL3.out, HK.out]; omega) HO2.out w.heap.size w HB3.out (Nat.le_refl _) ?_
  intro w4 HG4 hB4
  have HZ := hid (HE.out _ hB4 HG4.out)
  clear HG4 hB4
  refine hK.out _ _ trivial (fun _ => ?_)
  clear hK K
  try simp only [Act.put, List.getElem_toArray, List.getElem_cons_zero, List.getElem_cons_succ, List.setIfInBounds_toArray, List.set_cons_zero, List.set_cons_succ]
  refine wpAnyH_done (by kernel_rfl) ?_ _
  generalize (if n + 1 = k then some (⟨w.heap.size, 0, none⟩ : Addr) else some ⟨w.heap.size, k, none⟩) = dp
  generalize (if c = i then a else Option.map (fun x => x.add i) a) = sp
  go_wp2
  go_ret
  exact ⟨_, rfl, HZ.out⟩
end Go.Proofs.YtdgknofpkafppaaDoor

/- The program's orders: Top, beside, Above, Below. -/
namespace Go.Proofs.YtdgknofpkafppaaDoor
open Go Go.RowKit

set_option maxRecDepth 100000 in
theorem otop_any (a : Option Addr) (n c : Nat) (l : List Int) (k : Int) (w : World) (p : Addr) (hp : Pl w p) (h : Rz w a n c l) (hn : n ≤ 1000000) :
    Calls Tryd.prog 31 #[.slice a n c, .int .i64 k] w fun e w' => ∃ v, e = .returned v ∧ OwZ w w' v (dr k l ++ [k]) := by
  have HD := hid (odrop_any a n c l k w p hp h hn)
  have hdl := dr_length k l
  rw [h.len] at hdl
  clear h hp
  go_enter Tryd.func31, Tryd.ntmps31
  go_wp2_with fail
  refine HD.out.mono ?_
  rintro e w1 ⟨v1, rfl, ho1⟩
  obtain ⟨a1, c1, rfl, hr1, -⟩ := ho1.rd
  have hs := hr1.small
  have HI := hid (oinsert_any a1 _ c1 _ (dr k l).length k w1 hr1 (Nat.le_refl _) (by omega))
  have HB := hid ho1.bel
  rw [ins_end] at HI
  clear ho1 hr1 HD
  generalize (dr k l).length = m at *
  go_wp2_with fail
  refine HI.out.mono ?_
  rintro e w2 ⟨v2, rfl, ho2⟩
  have HO := hid (ho2.base HB.out)
  clear ho2 HI HB
  go_wp2
  go_ret
  exact ⟨_, rfl, HO.out⟩

/-- What Above and Below answer. -/
def BesR (w : World) (p : Addr) (r : Option (List Int)) (e : Ending) (w' : World) : Prop := match r with
  | none => e = .returned (.tuple #[.slice none 0 0, .iface 151 (.pointer (some p))]) ∧ Below w.heap.size w w'
  | some m => ∃ v, e = .returned (.tuple #[v, .nilIface]) ∧ OwZ w w' v m

theorem bes_length {l m : List Int} {id by_ : Int} {b : Nat} (h : bes l id by_ b = some m) : m.length ≤ l.length + 1 := by
  unfold bes at h
  split at h
  · cases h
  · obtain ⟨i, _, rfl⟩ := Option.map_eq_some_iff.1 h
    rw [ins_length]
    have := dr_length id l
    omega

set_option maxRecDepth 100000 in
set_option maxHeartbeats 1000000 in
theorem obeside_any (a : Option Addr) (n c : Nat) (l : List Int) (id by_ : Int) (b : Nat) (hb1 : b ≤ 1) (w : World) (p : Addr) (hp : Pl w p) (h : Rz w a n c l) (hn : n ≤ 1000000) :
    Calls Tryd.prog 67 #[.slice a n c, .int .i64 id, .int .i64 by_, .int .i64 b] w fun e w' => BesR w p (bes l id by_ b) e w' := by
  have HH := hid (ohas_any a n c l id w p hp h)
  have HD := hid (fun q => odrop_any a n c l id (w.drewN q) p (hp.drewN q) (h.drewN q) hn)
  have HP := hid hp
  have hdl := dr_length id l
  rw [h.len] at hdl
  clear h hp
  go_enter Tryd.func67, Tryd.ntmps67
  cases hx : zx id l with
  | none =>
    rw [hx] at HH
    have HE : Hid (bes l id by_ b = none) := by rw [Hid, bes, hx]
    clear hx
    go_wp2_with fail
    refine HH.out.mono ?_
    rintro e w1 ⟨rfl, q, rfl⟩
    have c0 := HP.out.c
    go_wp2
    go_quiet (fail)
    go_wp2
    go_ret2
    rw [HE.out]
    exact ⟨rfl, below_drewN (below_drewN (Below.refl _ _) _) _⟩
  | some j =>
    rw [hx] at HH
    have HE : Hid (bes l id by_ b = (zx by_ (dr id l)).map fun i => ins (dr id l) (i + b) id) := by rw [Hid, bes, hx]
    clear hx
    go_wp2_with fail
    refine HH.out.mono ?_
    rintro e w1 ⟨rfl, q, rfl⟩
    go_wp2_with fail
    refine (HD.out q).mono ?_
    rintro e w2 ⟨v2, rfl, ho2⟩
    have ho3 := ho2.base (below_drewN (Below.refl _ _) q)
    obtain ⟨a2, c2, rfl, hr2, -⟩ := ho2.rd
    have hs := hr2.small
    have HB := hid ho3.bel
    have HR := hid hr2
    have HF := hid (ofirst_any a2 _ c2 _ by_ w2 p (HP.out.on ho3.bel) hr2)
    clear ho2 ho3 hr2 HD HH
    have HL : Hid (∀ i, zx by_ (dr id l) = some i → i < (dr id l).length) := fun i hi => (zx_some hi).1
    generalize dr id l = L at *
    cases hy : zx by_ L with
    | none =>
      rw [fstV_none hy] at HF
      rw [hy] at HE
      clear hy HL
      go_wp2_with fail
      refine HF.out.mono ?_
      rintro e w3 ⟨rfl, q3, rfl⟩
      go_wp2
      go_ret2
      rw [HE.out]
      exact ⟨rfl, below_drewN HB.out _⟩
    | some i =>
      rw [fstV_some hy] at HF
      rw [hy] at HE
      have hi := HL.out i hy
      have HI := hid (fun q => oinsert_any a2 _ c2 L (i + b) id (w2.drewN q) (HR.out.drewN q) (by omega) (by omega))
      rw [show ((i + b : Nat) : Int) = (i : Int) + b by omega] at HI
      clear hy HL HR
      go_wp2_with fail
      refine HF.out.mono ?_
      rintro e w3 ⟨rfl, q3, rfl⟩
      go_wp2_with fail
      refine (HI.out q3).mono ?_
      rintro e w4 ⟨v4, rfl, ho4⟩
      have HO := hid (ho4.base (below_drewN HB.out q3))
      clear ho4 HI
      go_wp2
      go_ret2
      rw [HE.out]
      exact ⟨_, rfl, HO.out⟩



set_option maxRecDepth 100000 in
theorem obelow_any (a : Option Addr) (n c : Nat) (l : List Int) (id by_ : Int) (w : World) (p : Addr) (hp : Pl w p) (h : Rz w a n c l) (hn : n ≤ 1000000) :
    Calls Tryd.prog 51 #[.slice a n c, .int .i64 id, .int .i64 by_] w fun e w' => BesR w p (bes l id by_ 0) e w' := by
  have HB : Hid (Calls Tryd.prog 67 #[.slice a n c, .int .i64 id, .int .i64 by_, .int .i64 0] w fun e w' => BesR w p (bes l id by_ 0) e w') := obeside_any a n c l id by_ 0 (by omega) w p hp h hn
  clear h hp
  go_enter Tryd.func51, Tryd.ntmps51
  go_wp2_with fail
  refine HB.out.mono ?_
  rintro e w1 h1
  cases hr : bes l id by_ 0 with
  | none =>
    rw [hr] at h1
    obtain ⟨rfl, hb⟩ := h1
    have HZ := hid hb
    have HR := hid hr
    clear hb hr HB
    go_wp2
    go_ret2
    rw [HR.out]
    exact ⟨rfl, HZ.out⟩
  | some m =>
    rw [hr] at h1
    obtain ⟨v, rfl, ho⟩ := h1
    have HZ := hid ho
    have HR := hid hr
    clear ho hr HB
    go_wp2
    go_ret2
    rw [HR.out]
    exact ⟨_, rfl, HZ.out⟩

end Go.Proofs.YtdgknofpkafppaaDoor

/- The program's forest: Position, Above, Below, Sub. Written by forest/mk_pfh.py. -/
namespace Go.Proofs.YtdgknofpkafppaaDoor
open Go Go.RowKit

variable {base : Nat} {w0 w w' : World} {p m : Nat} {L L' : Po} {F : Fo} {id : Int} {es : List Addr} {e : Ps}
theorem Fe.kb {B : Nat} (h : Fe w es) (hb : Below B w w') (hB : 5 ≤ B) : Fe w' es :=
  ⟨by rw [hb.cell (show 0 < B by omega)]; exact h.arg, by rw [hb.cell (show 2 < B by omega)]; exact h.big, by rw [hb.cell (show 1 < B by omega)]; exact h.obj, by rw [hb.cell (show 3 < B by omega)]; exact h.rol, by rw [hb.cell (show 4 < B by omega)]; exact h.plc⟩
theorem PfR.bel (h : PfR base w p m L F w' L') (h0 : Pf base w p m L) : Below base w w' := by
  have h1 := h0.lt.1
  have h2 := h0.lop
  refine h.kp.below (by omega) (fun k hk => ?_)
  rcases List.mem_cons.1 hk with rfl | hk
  · exact h0.lom
  · obtain ⟨x, e, he, hb⟩ := (mem_wbs h0.nd).1 hk
    exact (h0.wlt he hb).1
/-- The lists of a forest are not long. -/
def Few (L : Po) : Prop := ∀ x e, gt L x = some e → e.s.pe.Len 900000 ∧ e.s.ca.Len 900000 ∧ e.s.no.Len 900000
theorem Few.lat (h : Few L) (he : gt L id = some e) : (latS e.s).n ≤ 900000 := by
  obtain ⟨h1, h2, h3⟩ := h id e he
  unfold Sx.Len at h1 h2 h3
  unfold latS
  cases e.s.pe.ord
  · cases e.s.ca.ord
    · exact h3.2.2.2.1
    · exact h2.2.2.2.1
  · exact h1.2.2.2.1

theorem fcut_any (z : Int) (w : World) : Calls Tryd.prog 49 #[.int .i64 z] w fun e w' => e = .returned (.int .i64 (edg z)) ∧ w' = w := by
  have HE : Hid (edg z = min (max z (-16777216)) 16777216) := rfl
  go_enter Tryd.func49, Tryd.ntmps49
  go_wp2
  go_ret
  exact ⟨rfl, rfl⟩

/-- Where the parent is. -/
theorem Nok.up (hN : Nok L) (he : gt L id = some e) (h0 : e.s.par ≠ 0) : ∃ ep, gt L e.s.par = some ep ∧ pto L e.s.par = some ep.g := by
  obtain ⟨ep, hp⟩ := Option.isSome_iff_exists.1 ((hN.par id e he).resolve_left h0)
  exact ⟨ep, hp, by rw [pto, hp]; rfl⟩

set_option maxRecDepth 100000 in
set_option maxHeartbeats 1000000 in
theorem fpos_any (hE : Fe w es) (h : Pf base w p m L) (hN : Nok L) (hL : Few L) (id x y : Int) (hi : Bt id) :
    Calls Tryd.prog 20 #[.pointer (some ⟨p, 0, none⟩), .int .i64 id, .int .i64 x, .int .i64 y] w fun e w' => e = .returned (erv es (unsE (pab L) id)) ∧ ∃ L', PfR base w p m L (posF (pab L) id x y) w' L' := by
  have HF := hid (ffindsub_any hE h id hi (fun e he => (hN.key id e he).2))
  cases hq : gt L id with
  | none =>
    have HT : Hid (fs1 L id = none ∧ fs2 L id = none ∧ unsE (pab L) id = 5) := ⟨by rw [fs1, hq], by rw [fs2, hq], by rw [unsE, gt_pab, hq]; rfl⟩
    have HX : Hid (∀ q, PfR base w p m L (posF (pab L) id x y) (w.drewN q) L) := fun q => (PfR.refl h (below_drewN (Below.refl _ _) q)).as (by rw [posF, gt_pab, hq]; rfl)
    rw [HT.out.1, HT.out.2.1, HT.out.2.2] at HF
    rw [HT.out.2.2]
    clear hq h hE HT hN hL
    go_enter Tryd.func20, Tryd.ntmps20
    go_wp2_with fail
    refine HF.out.mono ?_
    rintro e w1 ⟨rfl, q1, rfl⟩
    rw [ptv_none, erv_succ]
    go_wp2
    go_ret
    exact ⟨rfl, L, HX.out q1⟩
  | some e =>
    cases h0 : (e.s.par == 0)
    · have h0' : e.s.par ≠ 0 := by simpa using h0
      obtain ⟨ep, hep, hpt⟩ := hN.up hq h0'
      have HT : Hid (fs1 L id = some e.g ∧ fs2 L id = some ep.g ∧ unsE (pab L) id = 0) := ⟨by rw [fs1, hq]; simp [h0'], by rw [fs2, hq]; simp [h0', hpt], by rw [unsE, gt_pab, hq]; simp [Sr.f, h0']⟩
      rw [HT.out.1, HT.out.2.1, HT.out.2.2] at HF
      rw [HT.out.2.2]
      have HFE : Hid (posF (pab L) id x y = upd (pab L) e.s.par (plcS [id, edg x, edg y])) := by rw [Hid, posF, gt_pab, hq]; simp [Sr.f, h0']
      have HS : Hid (∀ (W W1 : World) (v : Value), Below w.heap.size w W → OwM 3 46 W W1 v (put1 ep.s.pe.pl.l [id, edg x, edg y]) → ∃ l : Sl, v = .slice l.a l.n l.c ∧ W1.cell? ⟨ep.g, 9, none⟩ = some (.slice ep.s.pe.pl.a ep.s.pe.pl.n ep.s.pe.pl.c) ∧ (∀ j, W1.frozen? ⟨ep.g, j, none⟩ = false) ∧ ep.g < W1.heap.size ∧ ∃ L', PfR base w p m L (posF (pab L) id x y) (W1.setCell ⟨ep.g, 9, none⟩ (.slice l.a l.n l.c)) L') := fun W W1 v hb ho => by
        obtain ⟨l, rfl, hn, hl, hr, hown⟩ := own_sl ho.own rfl ho.size
        have hb1 := Below.on hb ho.bel
        have h1 := h.on hb1
        refine ⟨l, rfl, h1.cell hep, h1.fz hep, (h1.wlt hep (mem_wb.2 (.inl rfl))).2, _, (h.putPl hep hb1 l hr (ownsRow_low hown hb.size) (plcS [id, edg x, edg y]) ?_).as HFE.out.symm⟩
        simp only [Sr.f, Sx.q, plcS, hl]
      have HC : Hid (∀ W : World, Below w.heap.size w W → W.cell? ⟨ep.g, 9, none⟩ = some (.slice ep.s.pe.pl.a ep.s.pe.pl.n ep.s.pe.pl.c) ∧ ep.g < W.heap.size) := fun W hW => ⟨(h.on hW).cell hep, ((h.on hW).wlt hep (mem_wb.2 (.inl rfl))).2⟩
      have HP : Hid (∀ W : World, Below w.heap.size w W → RdM 3 W ep.s.pe.pl.a ep.s.pe.pl.n ep.s.pe.pl.c ep.s.pe.pl.l) := fun W hW => ((h.on hW).rows _ _ hep).ok.pe.pl
      have hpn : ep.s.pe.pl.n ≤ 900000 := (hL _ _ hep).1.2.2.2.2
      have HX := hid (fcut_any x)
      have HY := hid (fcut_any y)
      clear hq h hE HT hN hL h0' h0 hep hpt HFE
      go_enter Tryd.func20, Tryd.ntmps20
      go_wp2_with fail
      refine HF.out.mono ?_
      rintro e' w1 ⟨rfl, q1, hw1⟩
      have HB1 : Hid (Below w.heap.size w w1) := by rw [Hid, hw1]; exact below_drewN (Below.refl _ _) q1
      clear hw1
      rw [ptv_some, ptv_some, erv0]
      go_upto_region 4 with fail
      go_cut [10, 12] (fun v10 v12 wc => v10 = .pointer (some ⟨ep.g, 0, none⟩) ∧ ∃ k, v12 = .pointer (some ⟨k, 0, none⟩) ∧ RowKit.Below w.heap.size w wc ∧ Bk wc k 46 #[.int .i64 id, .int .i64 (edg x), .int .i64 (edg y)])
      case first =>
        go_wp2_with fail
        refine (HX.out _).mono ?_
        rintro e' w2 ⟨rfl, rfl⟩
        go_wp2_with fail
        refine (HY.out _).mono ?_
        rintro e' w2 ⟨rfl, rfl⟩
        go_wp2_with fail
        go_meet
        exact ⟨rfl, _, rfl, Below.on HB1.out (bel_new _ _), bk_new _ _ _⟩
      obtain ⟨rfl, k, rfl, hbc, hkc⟩ := hcut
      have HBC := hid hbc
      have HKC : Hid (∀ W : World, Below wc.heap.size wc W → k < W.heap.size ∧ W.cell? ⟨k, 0, none⟩ = some (.int .i64 id) ∧ W.cell? ⟨k, 1, none⟩ = some (.int .i64 (edg x)) ∧ W.cell? ⟨k, 2, none⟩ = some (.int .i64 (edg y))) := fun W hW => ⟨(hkc.on hW).lt, (hkc.on hW).cell 0, (hkc.on hW).cell 1, (hkc.on hW).cell 2⟩
      clear hbc hkc HF HX HY HB1
      go_upto_region 5 with fail
      refine wp_region_gate_drew (g := 11) (S := RowKit.Below wc.heap.size wc) (by kernel_rfl) ?hh (fun hHeld => ?_)
      case hh => exact ((Below.refl _ _).drew)
      generalize wc.drew = W0 at hHeld ⊢
      try dsimp only at hHeld
      refine wpAnyG_take (i := 0) (v := ?_) rfl (by kernel_rfl) (by kernel_rfl) (by kernel_rfl) (by kernel_rfl) (fun _ _ _ h => h) (Or.inl ⟨by kernel_rfl, ?hy0⟩) (by assumption) ?_
      case hy0 => (intro wI hSw; (try dsimp only at hSw); obtain ⟨t1, t2⟩ := HC.out _ (Below.on HBC.out hSw); obtain ⟨t3, t4, t5, t6⟩ := HKC.out _ hSw; go_simp; try with_reducible rfl)
      try simp only [Act.put, List.getElem_toArray, List.getElem_cons_zero, List.setIfInBounds_toArray, List.set_cons_zero, List.set_cons_succ]
      refine wpAnyG_take (i := 1) (v := ?_) rfl (by kernel_rfl) (by kernel_rfl) (by kernel_rfl) (by kernel_rfl) (fun _ _ _ h => h) (Or.inl ⟨by kernel_rfl, ?hy1⟩) (by assumption) ?_
      case hy1 => (intro wI hSw; (try dsimp only at hSw); obtain ⟨t1, t2⟩ := HC.out _ (Below.on HBC.out hSw); obtain ⟨t3, t4, t5, t6⟩ := HKC.out _ hSw; go_simp; try with_reducible rfl)
      try simp only [Act.put, List.getElem_toArray, List.getElem_cons_zero, List.getElem_cons_succ, List.setIfInBounds_toArray, List.set_cons_zero, List.set_cons_succ]
      refine wpAnyG_take (i := 2) (v := ?_) rfl (by kernel_rfl) (by kernel_rfl) (by kernel_rfl) (by kernel_rfl) (fun _ _ _ h => h) (Or.inl ⟨by kernel_rfl, ?hy2⟩) (by assumption) ?_
      case hy2 => (intro wI hSw; (try dsimp only at hSw); obtain ⟨t1, t2⟩ := HC.out _ (Below.on HBC.out hSw); obtain ⟨t3, t4, t5, t6⟩ := HKC.out _ hSw; go_simp; try with_reducible rfl)
      try simp only [Act.put, List.getElem_toArray, List.getElem_cons_zero, List.getElem_cons_succ, List.setIfInBounds_toArray, List.set_cons_zero, List.set_cons_succ]
      refine wpAnyG_take (i := 3) (v := ?_) rfl (by kernel_rfl) (by kernel_rfl) (by kernel_rfl) (by kernel_rfl) (fun _ _ _ h => h) (Or.inl ⟨by kernel_rfl, ?hy3⟩) (by assumption) ?_
      case hy3 => (intro wI hSw; (try dsimp only at hSw); obtain ⟨t1, t2⟩ := HC.out _ (Below.on HBC.out hSw); obtain ⟨t3, t4, t5, t6⟩ := HKC.out _ hSw; go_simp; try with_reducible rfl)
      try simp only [Act.put, List.getElem_toArray, List.getElem_cons_zero, List.getElem_cons_succ, List.setIfInBounds_toArray, List.set_cons_zero, List.set_cons_succ]
      refine wpAnyG_take (i := 4) (v := ?_) rfl (by kernel_rfl) (by kernel_rfl) (by kernel_rfl) (by kernel_rfl) (fun _ _ _ h => h) (Or.inl ⟨by kernel_rfl, ?hy4⟩) (by assumption) ?_
      case hy4 => (intro wI hSw; (try dsimp only at hSw); obtain ⟨t1, t2⟩ := HC.out _ (Below.on HBC.out hSw); obtain ⟨t3, t4, t5, t6⟩ := HKC.out _ hSw; go_simp; try with_reducible rfl)
      try simp only [Act.put, List.getElem_toArray, List.getElem_cons_zero, List.getElem_cons_succ, List.setIfInBounds_toArray, List.set_cons_zero, List.set_cons_succ]
      refine wpAnyG_take (i := 5) (v := ?_) rfl (by kernel_rfl) (by kernel_rfl) (by kernel_rfl) (by kernel_rfl) (fun _ _ _ h => h) (Or.inl ⟨by kernel_rfl, ?hy5⟩) (by assumption) ?_
      case hy5 => (intro wI hSw; (try dsimp only at hSw); obtain ⟨t1, t2⟩ := HC.out _ (Below.on HBC.out hSw); obtain ⟨t3, t4, t5, t6⟩ := HKC.out _ hSw; go_simp; try with_reducible rfl)
      try simp only [Act.put, List.getElem_toArray, List.getElem_cons_zero, List.getElem_cons_succ, List.setIfInBounds_toArray, List.set_cons_zero, List.set_cons_succ]
      refine wpAnyG_take (i := 6) (v := ?_) rfl (by kernel_rfl) (by kernel_rfl) (by kernel_rfl) (by kernel_rfl) (fun _ _ _ h => h) (Or.inl ⟨by kernel_rfl, ?hy6⟩) (by assumption) ?_
      case hy6 => (intro wI hSw; (try dsimp only at hSw); obtain ⟨t1, t2⟩ := HC.out _ (Below.on HBC.out hSw); obtain ⟨t3, t4, t5, t6⟩ := HKC.out _ hSw; go_simp; try with_reducible rfl)
      try simp only [Act.put, List.getElem_toArray, List.getElem_cons_zero, List.getElem_cons_succ, List.setIfInBounds_toArray, List.set_cons_zero, List.set_cons_succ]
      refine wpAnyG_ready (rs := [7]) (by kernel_rfl) (by simp) ?_
      refine AllReadyG.cons rfl (fun K hK => ?_) AllReadyG.nil
      go_simp
      go_wp2_with fail
      refine (sput_any _ _ _ _ id (edg x) (edg y) _ (HP.out _ (Below.on HBC.out hHeld)) hpn).mono ?_
      rintro e' W7 ⟨v9, rfl, ho9⟩
      obtain ⟨l9, rfl, d1, d2, d3, d4⟩ := HS.out _ _ _ (Below.on HBC.out hHeld) ho9
      have HX := hid d4
      refine hK.out _ _ (Below.on hHeld ho9.bel) (fun _ => ?_)
      have hH2 := Below.on hHeld ho9.bel
      clear hK K hHeld d4 ho9
      have hHeld := hH2
      clear hH2
      try simp only [Act.put, List.getElem_toArray, List.getElem_cons_zero, List.getElem_cons_succ, List.setIfInBounds_toArray, List.set_cons_zero, List.set_cons_succ]
      refine wpAnyG_take (i := 8) (v := ?_) rfl (by kernel_rfl) (by kernel_rfl) (by kernel_rfl) (by kernel_rfl) (fun _ _ _ h => h) (Or.inl ⟨by kernel_rfl, ?hy8⟩) (by assumption) ?_
      case hy8 => (intro wI hSw; (try dsimp only at hSw); obtain ⟨t1, t2⟩ := HC.out _ (Below.on HBC.out hSw); obtain ⟨t3, t4, t5, t6⟩ := HKC.out _ hSw; go_simp; try with_reducible rfl)
      try simp only [Act.put, List.getElem_toArray, List.getElem_cons_zero, List.getElem_cons_succ, List.setIfInBounds_toArray, List.set_cons_zero, List.set_cons_succ]
      refine wpAnyG_take (i := 9) (v := ?_) rfl (by kernel_rfl) (by kernel_rfl) (by kernel_rfl) (by kernel_rfl) (fun _ _ _ h => h) (Or.inl ⟨by kernel_rfl, ?hy9⟩) (by assumption) ?_
      case hy9 => (intro wI hSw; (try dsimp only at hSw); obtain ⟨t1, t2⟩ := HC.out _ (Below.on HBC.out hSw); obtain ⟨t3, t4, t5, t6⟩ := HKC.out _ hSw; go_simp; try with_reducible rfl)
      try simp only [Act.put, List.getElem_toArray, List.getElem_cons_zero, List.getElem_cons_succ, List.setIfInBounds_toArray, List.set_cons_zero, List.set_cons_succ]
      refine wpAnyG_take (i := 10) (v := ?_) rfl (by kernel_rfl) (by kernel_rfl) (by kernel_rfl) (by kernel_rfl) (fun _ _ _ h => h) (Or.inl ⟨by kernel_rfl, ?hy10⟩) (by assumption) ?_
      case hy10 => (intro wI hSw; (try dsimp only at hSw); obtain ⟨t1, t2⟩ := HC.out _ (Below.on HBC.out hSw); obtain ⟨t3, t4, t5, t6⟩ := HKC.out _ hSw; go_simp; try with_reducible rfl)
      try simp only [Act.put, List.getElem_toArray, List.getElem_cons_zero, List.getElem_cons_succ, List.setIfInBounds_toArray, List.set_cons_zero, List.set_cons_succ]
      have hG := hHeld
      clear hHeld
      have hHeld : True := trivial
      refine wpAnyG_gateOp rfl (by kernel_rfl) (fun K hK => ?_)
      go_simp
      refine hK.out _ _ trivial (fun _ => ?_)
      clear hK K
      try simp only [Act.put, List.getElem_toArray, List.getElem_cons_zero, List.getElem_cons_succ, List.setIfInBounds_toArray, List.set_cons_zero, List.set_cons_succ]
      refine wpAnyH_done (by kernel_rfl) ?_ _
      go_wp2_with fail
      go_ret
      exact ⟨rfl, HX.out⟩
    · have h0' : e.s.par = 0 := by simpa using h0
      have HT : Hid (fs1 L id = none ∧ fs2 L id = none ∧ unsE (pab L) id = 10) := ⟨by rw [fs1, hq]; simp [h0'], by rw [fs2, hq]; simp [h0'], by rw [unsE, gt_pab, hq]; simp [Sr.f, h0']⟩
      have HX : Hid (∀ q, PfR base w p m L (posF (pab L) id x y) (w.drewN q) L) := fun q => (PfR.refl h (below_drewN (Below.refl _ _) q)).as (by rw [posF, gt_pab, hq]; simp [Sr.f, h0'])
      rw [HT.out.1, HT.out.2.1, HT.out.2.2] at HF
      rw [HT.out.2.2]
      clear hq h hE HT hN h0' hL
      go_enter Tryd.func20, Tryd.ntmps20
      go_wp2_with fail
      refine HF.out.mono ?_
      rintro e w1 ⟨rfl, q1, rfl⟩
      rw [ptv_none, erv_succ]
      go_wp2
      go_ret
      exact ⟨rfl, L, HX.out q1⟩

set_option maxRecDepth 100000 in
set_option maxHeartbeats 1000000 in
theorem fplace_any (hE : Fe w es) (h : Pf base w p m L) (hN : Nok L) (hL : Few L) (id y : Int) (hi : Bt id) (b : Nat) (g : Nat) (eg : ∀ args w, (callFunc g args).run Tryd.prog w = .ok (.enter g args) w)
    (hg : ∀ (a : Option Addr) (n c : Nat) (l : List Int) (id y : Int) (w : World) (p : Addr), Pl w p → Rz w a n c l → n ≤ 1000000 → Calls Tryd.prog g (#[.slice a n c, .int .i64 id, .int .i64 y] ++ #[]) w fun e w' => BesR w p (bes l id y b) e w') :
    Calls Tryd.prog 50 #[.pointer (some ⟨p, 0, none⟩), .int .i64 id, .int .i64 y, .func (.func g) #[] #[]] w fun e w' => e = .returned (erv es (putE (pab L) id y b)) ∧ ∃ L', PfR base w p m L (putF (pab L) id y b) w' L' := by
  have HF := hid (ffindsub_any hE h id hi (fun e he => (hN.key id e he).2))
  cases hq : gt L id with
  | none =>
    have HT : Hid (fs1 L id = none ∧ fs2 L id = none ∧ unsE (pab L) id = 5) := ⟨by rw [fs1, hq], by rw [fs2, hq], by rw [unsE, gt_pab, hq]; rfl⟩
    have HX : Hid (∀ q, PfR base w p m L (putF (pab L) id y b) (w.drewN q) L) := fun q => (PfR.refl h (below_drewN (Below.refl _ _) q)).as (by rw [putF, putL, gt_pab, hq]; rfl)
    have HV : Hid (putE (pab L) id y b = 5) := by rw [Hid, putE, HT.out.2.2]; rfl
    rw [HT.out.1, HT.out.2.1, HT.out.2.2] at HF
    rw [HV.out]
    clear hq h hE HT hN hL HV
    go_enter Tryd.func50, Tryd.ntmps50
    go_wp2_with fail
    refine HF.out.mono ?_
    rintro e w1 ⟨rfl, q1, rfl⟩
    rw [ptv_none, erv_succ]
    go_wp2
    go_ret
    exact ⟨rfl, L, HX.out q1⟩
  | some e =>
    cases h0 : (e.s.par == 0)
    · have h0' : e.s.par ≠ 0 := by simpa using h0
      obtain ⟨ep, hep, hpt⟩ := hN.up hq h0'
      have HT : Hid (fs1 L id = some e.g ∧ fs2 L id = some ep.g ∧ unsE (pab L) id = 0) := ⟨by rw [fs1, hq]; simp [h0'], by rw [fs2, hq]; simp [h0', hpt], by rw [unsE, gt_pab, hq]; simp [Sr.f, h0']⟩
      rw [HT.out.1, HT.out.2.1, HT.out.2.2] at HF
      have HPL : Hid (putL (pab L) id y b = if y = e.s.par then (bes (un1 (lat ep.s.f)) id 0 b).map fun m => (e.s.par, m) else if y = 0 then none else (bes (un1 (lat ep.s.f)) id y b).map fun m => (e.s.par, m)) := by
        rw [Hid, putL, gt_pab, hq]
        simp only [Option.map_some, Sr.f, h0', if_false]
        rw [gt_pab, hep]
        rfl
      have HPE : Hid (∀ r, putL (pab L) id y b = r → putE (pab L) id y b = match r with | none => 11 | some _ => 0) := fun r hr => by rw [putE, HT.out.2.2, ← hr]; rfl
      cases hy : (y == 0)
      · have hy' : y ≠ 0 := by simpa using hy
        obtain ⟨y', hyy⟩ : ∃ y', y' = if y = e.s.par then 0 else y := ⟨_, rfl⟩
        have HPL2 : Hid (putL (pab L) id y b = (bes (un1 (lat ep.s.f)) id y' b).map fun m => (e.s.par, m)) := by
          rw [Hid, HPL.out, hyy]
          by_cases e1 : y = e.s.par
          · rw [if_pos e1, if_pos e1]
          · rw [if_neg e1, if_neg e1, if_neg hy']
        have HE := hid hE
        have H := hid h
        have HEP := hid hep
        have hln := hL.lat hep
        have hlt := (h.wlt hq (mem_wb.2 (.inl rfl))).2
        have c1 : w.cell? ⟨e.g, 30, none⟩ = some (.int .i64 e.s.par) := h.cell hq
        have HG := hid hg
        have HYY := hid hyy
        clear hq h hE HT hN hL h0' h0 hep hpt HPL hg hyy hy'
        go_enter Tryd.func50, Tryd.ntmps50
        go_wp2_with fail
        refine HF.out.mono ?_
        rintro e' w1 ⟨rfl, q1, rfl⟩
        rw [ptv_some, ptv_some, erv0]
        clear HF
        have HQ := hid (H.out.drewN q1)
        go_upto_if 31 with fail
        go_cut [0, 1, 2, 3, 10] (fun v0 v1 v2 v3 v10 wc => v0 = .pointer (some ⟨p, 0, none⟩) ∧ v1 = .int .i64 id ∧ v2 = .int .i64 y' ∧ v3 = .func (.func g) #[] #[] ∧ v10 = .pointer (some ⟨ep.g, 0, none⟩) ∧ wc = w.drewN q1)
        case first =>
          cases e1 : (y == e.s.par)
          · have e1' : y' = y := by rw [HYY.out, if_neg (by simpa using e1)]
            go_wp2_with fail
            go_meet
            rw [e1']
            exact ⟨rfl, rfl, rfl, rfl, rfl, rfl⟩
          · have e1' : y' = 0 := by rw [HYY.out, if_pos (by simpa using e1)]
            go_wp2_with fail
            go_meet
            rw [e1']
            exact ⟨rfl, rfl, rfl, rfl, rfl, rfl⟩
        obtain ⟨rfl, rfl, rfl, rfl, rfl, rfl⟩ := hcut
        clear c1 hlt HYY
        go_wp2_with fail
        refine (flatest_any HQ.out HEP.out).mono ?_
        rintro e' w2 ⟨rfl, rfl⟩
        rw [Sl.v]
        have hrz := rz_of_rdm (latS_ok (HQ.out.rows _ _ HEP.out).ok)
        rw [un1_lat] at hrz
        have HB := hid (HG.out _ _ _ _ id y' _ _ (HE.out.drewN q1).pl hrz (by omega))
        clear hrz
        go_wp2_with fail
        refine HB.out.mono ?_
        clear HB HG
        intro e' w2 hres
        cases hbs : bes (un1 (lat ep.s.f)) id y' b with
        | none =>
          have HV : Hid (putL (pab L) id y b = none) := by rw [Hid, HPL2.out, hbs]; rfl
          have HX : Hid (putE (pab L) id y b = 11 ∧ putF (pab L) id y b = pab L) := ⟨HPE.out _ HV.out, by rw [putF, HV.out]⟩
          rw [hbs] at hres
          obtain ⟨rfl, hb2⟩ := hres
          have HX2 := hid (PfR.refl H.out (Below.on (below_drewN (Below.refl _ _) q1) hb2))
          clear hbs hb2
          go_wp2
          go_ret
          rw [HX.out.1, HX.out.2]
          exact ⟨rfl, _, HX2.out⟩
        | some mm =>
          have HV : Hid (putL (pab L) id y b = some (e.s.par, mm)) := by rw [Hid, HPL2.out, hbs]; rfl
          have HX : Hid (putE (pab L) id y b = 0 ∧ putF (pab L) id y b = upd (pab L) e.s.par (ordS (sg mm))) := ⟨HPE.out _ HV.out, by rw [putF, HV.out]⟩
          rw [hbs] at hres
          obtain ⟨v2, rfl, ho2⟩ := hres
          obtain ⟨l2, rfl, hl1, hl2, hl3⟩ := sl_of_owz ho2
          have HR := hid (freorder_any (w0 := w) (w := w2) H.out HEP.out (Below.on (below_drewN (Below.refl _ _) q1) ho2.bel) l2 hl2 (fun y hy _ => hl3 y hy))
          have HL1 := hid hl1
          clear hbs ho2 hl1 hl2 hl3
          go_wp2_with fail
          refine HR.out.mono ?_
          rintro e' w3 ⟨rfl, hr3⟩
          have HR3 := hid hr3
          clear hr3 HR
          go_wp2
          go_ret
          rw [HX.out.1, HX.out.2, ← HL1.out]
          exact ⟨rfl, _, HR3.out⟩
      · have hy' : y = 0 := by simpa using hy
        have HV : Hid (putL (pab L) id y b = none) := by
          rw [Hid, HPL.out, if_neg (by rw [hy']; exact fun e1 => h0' e1.symm), if_pos hy']
        have HX : Hid (putE (pab L) id y b = 11) := HPE.out _ HV.out
        have HX2 : Hid (∀ q, PfR base w p m L (putF (pab L) id y b) (w.drewN q) L) := fun q => (PfR.refl h (below_drewN (Below.refl _ _) q)).as (by rw [putF, HV.out])
        have c1 := hE.plc
        have l1 := World.block_lt_of_cell? _ _ c1
        rw [HX.out]
        clear hq h hE HT hN hL h0' h0 hep hpt HPL HPE hg HV HX hy'
        go_enter Tryd.func50, Tryd.ntmps50
        go_wp2_with fail
        refine HF.out.mono ?_
        rintro e' w1 ⟨rfl, q1, rfl⟩
        rw [ptv_some, ptv_some, erv0]
        go_wp2
        go_ret
        exact ⟨rfl, _, HX2.out q1⟩
    · have h0' : e.s.par = 0 := by simpa using h0
      have HT : Hid (fs1 L id = none ∧ fs2 L id = none ∧ unsE (pab L) id = 10) := ⟨by rw [fs1, hq]; simp [h0'], by rw [fs2, hq]; simp [h0'], by rw [unsE, gt_pab, hq]; simp [Sr.f, h0']⟩
      have HX : Hid (∀ q, PfR base w p m L (putF (pab L) id y b) (w.drewN q) L) := fun q => (PfR.refl h (below_drewN (Below.refl _ _) q)).as (by rw [putF, putL, gt_pab, hq]; simp [Sr.f, h0'])
      have HV : Hid (putE (pab L) id y b = 10) := by rw [Hid, putE, HT.out.2.2]; rfl
      rw [HT.out.1, HT.out.2.1, HT.out.2.2] at HF
      rw [HV.out]
      clear hq h hE HT hN h0' hL HV
      go_enter Tryd.func50, Tryd.ntmps50
      go_wp2_with fail
      refine HF.out.mono ?_
      rintro e w1 ⟨rfl, q1, rfl⟩
      rw [ptv_none, erv_succ]
      go_wp2
      go_ret
      exact ⟨rfl, L, HX.out q1⟩


set_option maxRecDepth 100000 in
theorem fbelow_any (hE : Fe w es) (h : Pf base w p m L) (hN : Nok L) (hL : Few L) (id y : Int) (hi : Bt id) :
    Calls Tryd.prog 21 #[.pointer (some ⟨p, 0, none⟩), .int .i64 id, .int .i64 y] w fun e w' => e = .returned (erv es (putE (pab L) id y 0)) ∧ ∃ L', PfR base w p m L (putF (pab L) id y 0) w' L' := by
  have HP := hid (fplace_any hE h hN hL id y hi 0 51 (enters_of Tryd.func51 (by kernel_rfl) rfl) (fun a n c l id y w p hp hr hn => obelow_any a n c l id y w p hp hr hn))
  clear hE h hN hL
  go_enter Tryd.func21, Tryd.ntmps21
  go_wp2_with fail
  refine HP.out.mono ?_
  rintro e w1 ⟨rfl, hx⟩
  have HX := hid hx
  clear hx
  go_wp2
  go_ret
  exact ⟨rfl, HX.out⟩
end Go.Proofs.YtdgknofpkafppaaDoor

/- First; law00's State. Written by state/mk_stak.py. -/
namespace Go.Proofs.YtdgknofpkafppaaDoor
open Go Go.RowKit

/-- What a new surface has. -/
def sqF : Sq := ⟨false, 0, [], [], false, true, [], false, [[0]], []⟩
theorem rdm_one1 {w : World} {B T : Nat} {z : Int} (h : Bk w B T #[.int .i64 z]) : RdM 1 w (some ⟨B, 0, none⟩) 1 1 [[z]] :=
  ⟨rfl, Nat.le_refl _, by decide, (fun h => by cases h), fun _ => ⟨B, 0, rfl, h.lt, fun j y hy i t ht => by
    match j, hy with
    | 0, hy =>
      cases hy
      match i, ht with
      | 0, ht => cases ht; exact h.cell 0
      | i + 1, ht => simp at ht
    | j + 1, hy => simp at hy⟩, by simp⟩
theorem rdm_two1 {w : World} {B T : Nat} {z t : Int} (h : Bk w B T #[.int .i64 z, .int .i64 t]) : RdM 1 w (some ⟨B, 0, none⟩) 2 2 [[z], [t]] :=
  ⟨rfl, Nat.le_refl _, by decide, (fun h => by cases h), fun _ => ⟨B, 0, rfl, h.lt, fun j y hy i x hx => by
    match j, hy with
    | 0, hy =>
      cases hy
      match i, hx with
      | 0, hx => cases hx; exact h.cell 0
      | i + 1, hx => simp at hx
    | 1, hy =>
      cases hy
      match i, hx with
      | 0, hx => cases hx; exact h.cell 1
      | i + 1, hx => simp at hx
    | j + 2, hy => simp at hy⟩, by simp⟩

set_option maxRecDepth 100000 in
theorem firsto_any (w : World) : Calls Tryd.prog 27 #[] w (Rso w sqF) := by
  obtain ⟨r, hr⟩ : ∃ r : Sx, r = { sx0 with all := true, od := ⟨some ⟨w.heap.size + 1, 0, none⟩, 1, 1, [[0]]⟩ } := ⟨_, rfl⟩
  have hk := bk_new (w.alloc (.cells #[.bool r.at_, .int .i64 r.buf, .slice r.dm.a r.dm.n r.dm.c, .slice r.fr.a r.fr.n r.fr.c, .bool r.inp, .bool r.all, .slice r.rg.a r.rg.n r.rg.c, .bool r.ord, .slice r.od.a r.od.n r.od.c, .slice r.pl.a r.pl.n r.pl.c] 35)) #[.int .i64 0] 3
  have hb := Below.on (bel_new w (.cells #[.bool r.at_, .int .i64 r.buf, .slice r.dm.a r.dm.n r.dm.c, .slice r.fr.a r.fr.n r.fr.c, .bool r.inp, .bool r.all, .slice r.rg.a r.rg.n r.rg.c, .bool r.ord, .slice r.od.a r.od.n r.od.c, .slice r.pl.a r.pl.n r.pl.c] 35)) (bel_new (w.alloc (.cells #[.bool r.at_, .int .i64 r.buf, .slice r.dm.a r.dm.n r.dm.c, .slice r.fr.a r.fr.n r.fr.c, .bool r.inp, .bool r.all, .slice r.rg.a r.rg.n r.rg.c, .bool r.ord, .slice r.od.a r.od.n r.od.c, .slice r.pl.a r.pl.n r.pl.c] 35)) (.cells #[.int .i64 0] 3))
  have hz := (bs_new w r).on (bel_new (w.alloc (.cells #[.bool r.at_, .int .i64 r.buf, .slice r.dm.a r.dm.n r.dm.c, .slice r.fr.a r.fr.n r.fr.c, .bool r.inp, .bool r.all, .slice r.rg.a r.rg.n r.rg.c, .bool r.ord, .slice r.od.a r.od.n r.od.c, .slice r.pl.a r.pl.n r.pl.c] 35)) (.cells #[.int .i64 0] 3))
  rw [size_new] at hk
  subst hr
  have HK := hid hk
  have HB := hid hb
  have HZ := hid hz
  clear hk hb hz
  go_enter Tryd.func27, Tryd.ntmps27
  go_wp2
  refine bodyPost_ret (results_cell_row rfl _ _ w.heap.size _ _ _ _ rfl HZ.out.bk.obj Tryd.underlying35 rfl infoSt) rfl ?_
  exact ⟨_, rfl, ⟨RdM.nil _ _, RdM.nil _ _, RdM.nil _ _, rdm_one1 HK.out, RdM.nil _ _⟩, ⟨(fun y e => by cases e), (fun y e => by cases e), (fun y e => by cases e), (fun y e => by cases e; show w.heap.size ≤ w.heap.size + 1; omega), (fun y e => by cases e)⟩, rfl, HB.out, World.ownsRow_nil _ _ _ _, (fun y e => by cases e)⟩
theorem first_any (w : World) : Calls Tryd.prog 27 #[] w (Rst w sqF) := (firsto_any w).mono fun _ _ h => h.rst

/-- State's own blocks: what it makes, what it answers. -/
structure Mj (w : World) (s : Sx) (u : World) : Prop where
  bs : Bs u w.heap.size s
  bz : Bs u (w.heap.size + 1) sx0
  bel : RowKit.Below w.heap.size w u
theorem Mj.on {w : World} {s : Sx} {u v : World} (h : Mj w s u) (hb : Below u.heap.size u v) : Mj w s v := ⟨h.bs.on hb, h.bz.on hb, Below.on h.bel hb⟩
theorem Mj.drew {w : World} {s : Sx} {u : World} (h : Mj w s u) : Mj w s u.drew := h.on (Below.refl _ _).drew
theorem Mj.lt {w : World} {s : Sx} {u : World} (h : Mj w s u) : w.heap.size + 1 < u.heap.size := h.bz.lt
theorem Mj.st {w : World} {s : Sx} {u : World} (h : Mj w s u) (s' : Sx) (k : Nat) (v : Value) (hs : (#[.bool s.at_, .int .i64 s.buf, .slice s.dm.a s.dm.n s.dm.c, .slice s.fr.a s.fr.n s.fr.c, .bool s.inp, .bool s.all, .slice s.rg.a s.rg.n s.rg.c, .bool s.ord, .slice s.od.a s.od.n s.od.c, .slice s.pl.a s.pl.n s.pl.c] : Array Value).setIfInBounds k v = #[.bool s'.at_, .int .i64 s'.buf, .slice s'.dm.a s'.dm.n s'.dm.c, .slice s'.fr.a s'.fr.n s'.fr.c, .bool s'.inp, .bool s'.all, .slice s'.rg.a s'.rg.n s'.rg.c, .bool s'.ord, .slice s'.od.a s'.od.n s'.od.c, .slice s'.pl.a s'.pl.n s'.pl.c]) : Mj w s' (u.setCell ⟨w.heap.size, k, none⟩ v) :=
  ⟨⟨by have := h.bs.bk.set k v; rw [hs] at this; exact this⟩, h.bz.other (by omega) k v, h.bel.setCell (p := ⟨w.heap.size, k, none⟩) (Nat.le_refl _) v⟩
theorem mj_new (w : World) (x : Sx) : Mj w x ((w.alloc (.cells #[.bool x.at_, .int .i64 x.buf, .slice x.dm.a x.dm.n x.dm.c, .slice x.fr.a x.fr.n x.fr.c, .bool x.inp, .bool x.all, .slice x.rg.a x.rg.n x.rg.c, .bool x.ord, .slice x.od.a x.od.n x.od.c, .slice x.pl.a x.pl.n x.pl.c] 35)).alloc (.cells #[.bool sx0.at_, .int .i64 sx0.buf, .slice sx0.dm.a sx0.dm.n sx0.dm.c, .slice sx0.fr.a sx0.fr.n sx0.fr.c, .bool sx0.inp, .bool sx0.all, .slice sx0.rg.a sx0.rg.n sx0.rg.c, .bool sx0.ord, .slice sx0.od.a sx0.od.n sx0.od.c, .slice sx0.pl.a sx0.pl.n sx0.pl.c] 35)) := by
  obtain ⟨h1, h2, h3⟩ := sbox2 x sx0 (Below.refl _ ((w.alloc (.cells #[.bool x.at_, .int .i64 x.buf, .slice x.dm.a x.dm.n x.dm.c, .slice x.fr.a x.fr.n x.fr.c, .bool x.inp, .bool x.all, .slice x.rg.a x.rg.n x.rg.c, .bool x.ord, .slice x.od.a x.od.n x.od.c, .slice x.pl.a x.pl.n x.pl.c] 35)).alloc (.cells #[.bool sx0.at_, .int .i64 sx0.buf, .slice sx0.dm.a sx0.dm.n sx0.dm.c, .slice sx0.fr.a sx0.fr.n sx0.fr.c, .bool sx0.inp, .bool sx0.all, .slice sx0.rg.a sx0.rg.n sx0.rg.c, .bool sx0.ord, .slice sx0.od.a sx0.od.n sx0.od.c, .slice sx0.pl.a sx0.pl.n sx0.pl.c] 35)))
  exact ⟨h1, h2, h3⟩
theorem owm_sl {m e : Nat} {F : FuncId} {args : Array Value} {u : World} {l : List (List Int)} {p : Nat} (hp : p < u.heap.size) (h : Calls Tryd.prog F args u fun e' w' => ∃ v, e' = .returned v ∧ OwM m e u w' v l) :
    Calls Tryd.prog F args u fun e' w' => ∃ s : Sl, e' = .returned (.slice s.a s.n s.c) ∧ s.l = l ∧ RdF m w' p s ∧ Below u.heap.size u w' :=
  h.mono fun e' w' ⟨v, he, hO⟩ => by
    obtain ⟨s, hv, hl, hF⟩ := hO.rdf hp
    exact ⟨s, by rw [he, hv], hl, hF, hO.bel⟩

end Go.Proofs.YtdgknofpkafppaaDoor
