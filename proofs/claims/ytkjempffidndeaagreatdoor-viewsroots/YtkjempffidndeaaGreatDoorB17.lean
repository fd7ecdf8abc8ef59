/- Lemmas that the proof leans on. -/
import Derived.Test.YtkjempffidndeaaGreatDoorB15
import Derived.Test.YtkjempffidndeaaGreatDoorB16
namespace Go.Proofs.YtkjempffidndeaaGreatDoor
open Go Go.RowKit
open List renaming getElem_toArray → lqA, getElem_cons_zero → lqB, getElem_cons_succ → lqC, setIfInBounds_toArray → lqD, set_cons_zero → lqE, set_cons_succ → lqF
set_option maxRecDepth 100000
set_option maxHeartbeats 1000000
section
variable {base : Nat} {w0 w w' : World} {p m : Nat} {L L' : Po} {F : Fo} {id : Int} {es : List Addr} {e : Ps}
theorem Fe.kb {B : Nat} (h : Fe w es) (hb : Below B w w') (hB : 16 ≤ B) : Fe w' es :=
 ⟨by rw [hb.cell (show 0 < B by omega)]; exact h.arg, by rw [hb.cell (show 2 < B by omega)]; exact h.big, by rw [hb.cell (show 1 < B by omega)]; exact h.obj, by rw [hb.cell (show 9 < B by omega)]; exact h.rol, by rw [hb.cell (show 10 < B by omega)]; exact h.plc⟩
theorem PfR.bel (h : PfR base w p m L F w' L') (h0 : Pf base w p m L) : Below base w w' := by
 have h1 := h0.lt.1
 have h2 := h0.lop
 refine h.kp.below (by omega) (fun k hk => ?_)
 rcases List.mem_cons.1 hk with rfl | hk
 ·exact h0.lom
 ·obtain ⟨x, e, he, hb⟩ := (mem_wbs h0.nd).1 hk
  exact (h0.wlt he hb).1
def Few (L : Po) : Prop := ∀ x e, gt L x = some e → e.s.pe.Len 900000 ∧ e.s.ca.Len 900000 ∧ e.s.no.Len 900000
theorem Few.lat (h : Few L) (he : gt L id = some e) : (latS e.s).n ≤ 900000 := by
 obtain ⟨h1, h2, h3⟩ := h id e he
 unfold Sx.Len at h1 h2 h3
 unfold latS
 cases e.s.pe.ord
 ·cases e.s.ca.ord
  ·exact h3.2.2.2.1
  ·exact h2.2.2.2.1
 ·exact h1.2.2.2.1
theorem fcut_any (z : Int) (w : World) : Calls Tryz.prog 93 #[.int .i64 z] w fun e w' => e = .returned (.int .i64 (edg z)) ∧ w' = w := by
 have HE : Hid (edg z = min (max z (-16777216)) 16777216) := rfl
 go_enter Tryz.func93, Tryz.ntmps93
 go_wp2
 go_ret
 exact ⟨rfl, rfl⟩
theorem Nok.up (hN : Nok L) (he : gt L id = some e) (h0 : e.s.par ≠ 0) : ∃ ep, gt L e.s.par = some ep ∧ pto L e.s.par = some ep.g := by
 obtain ⟨ep, hp⟩ := Option.isSome_iff_exists.1 ((hN.par id e he).resolve_left h0)
 exact ⟨ep, hp, by rw [pto, hp]; rfl⟩
theorem fpos_any (hE : Fe w es) (h : Pf base w p m L) (hN : Nok L) (hL : Few L) (id x y : Int) (hi : Bt id) :
  Calls Tryz.prog 47 #[.pointer (some ⟨p, 0, none⟩), .int .i64 id, .int .i64 x, .int .i64 y] w fun e w' => e = .returned (erv es (unsE (pab L) id)) ∧ ∃ L', PfR base w p m L (posF (pab L) id x y) w' L' := by
 have HF := hid (ffindsub_any hE h id hi (fun e he => (hN.key id e he).2))
 cases hq : gt L id with
 | none =>
  have HT : Hid (fs1 L id = none ∧ fs2 L id = none ∧ unsE (pab L) id = 5) := ⟨by rw [fs1, hq], by rw [fs2, hq], by rw [unsE, gt_pab, hq]; rfl⟩
  have HX : Hid (∀ q, PfR base w p m L (posF (pab L) id x y) (w.drewN q) L) := fun q => (PfR.refl h (below_drewN (Below.refl _ _) q)).as (by rw [posF, gt_pab, hq]; rfl)
  rw [HT.out.1, HT.out.2.1, HT.out.2.2] at HF
  rw [HT.out.2.2]
  clear hq h hE HT hN hL
  go_enter Tryz.func47, Tryz.ntmps47
  go_wp2_with fail
  refine HF.out.mono ?_
  rintro e w1 ⟨rfl, q1, rfl⟩
  rw [ptv_none, erv_succ]
  go_wp2
  go_ret
  exact ⟨rfl, L, HX.out q1⟩
 | some e =>
  cases h0 : (e.s.par == 0)
  ·have h0' : e.s.par ≠ 0 := by simpa using h0
   obtain ⟨ep, hep, hpt⟩ := hN.up hq h0'
   have HT : Hid (fs1 L id = some e.g ∧ fs2 L id = some ep.g ∧ unsE (pab L) id = 0) := ⟨by rw [fs1, hq]; simp [h0'], by rw [fs2, hq]; simp [h0', hpt], by rw [unsE, gt_pab, hq]; simp [Sr.f, h0']⟩
   rw [HT.out.1, HT.out.2.1, HT.out.2.2] at HF
   rw [HT.out.2.2]
   have HFE : Hid (posF (pab L) id x y = upd (pab L) e.s.par (plcS [id, edg x, edg y])) := by rw [Hid, posF, gt_pab, hq]; simp [Sr.f, h0']
   have HS : Hid (∀ (W W1 : World) (v : Value), Below w.heap.size w W → OwM 3 46 W W1 v (put1 ep.s.pe.pl.l [id, edg x, edg y]) → ∃ l : Sl, v = .slice l.a l.n l.c ∧ W1.cell? ⟨ep.g, 9, none⟩ = some (.slice ep.s.pe.pl.a ep.s.pe.pl.n ep.s.pe.pl.c) ∧ (∀ j, W1.frozen? ⟨ep.g, j, none⟩ = false) ∧ ep.g < W1.heap.size ∧ ∃ L', PfR base w p m L (posF (pab L) id x y) (W1.setCell ⟨ep.g, 9, none⟩ (.slice l.a l.n l.c)) L') := fun W W1 v hb ho => by
    obtain ⟨l, rfl, hn, hl, hr, hown⟩ := own_sl ho.own rfl ho.size
    have hb1 := Below.on hb ho.bel
    have h1 := h.on hb1
    refine ⟨l, rfl, h1.cell hep, h1.fz hep, (h1.wlt hep (mem_wb.2 (.inl rfl))).2, _, (h.putPl hep hb1 l hr (ownsRow_low hown hb.size) (plcS [id, edg x, edg y]) ?_).as HFE.out.symm⟩
    simp only [Sr.f, Sx.q, plcS, hl]
   have HC : Hid (∀ W : World, Below w.heap.size w W → W.cell? ⟨ep.g, 9, none⟩ = some (.slice ep.s.pe.pl.a ep.s.pe.pl.n ep.s.pe.pl.c) ∧ ep.g < W.heap.size) := fun W hW => ⟨(h.on hW).cell hep, ((h.on hW).wlt hep (mem_wb.2 (.inl rfl))).2⟩
   have HP : Hid (∀ W : World, Below w.heap.size w W → RdM 3 W ep.s.pe.pl.a ep.s.pe.pl.n ep.s.pe.pl.c ep.s.pe.pl.l) := fun W hW => ((h.on hW).rows _ _ hep).ok.pe.pl
   have hpn : ep.s.pe.pl.n ≤ 900000 := (hL _ _ hep).1.2.2.2.2
   have HX := hid (fcut_any x)
   have HY := hid (fcut_any y)
   clear hq h hE HT hN hL h0' h0 hep hpt HFE
   go_enter Tryz.func47, Tryz.ntmps47
   go_wp2_with fail
   refine HF.out.mono ?_
   rintro e' w1 ⟨rfl, q1, hw1⟩
   have HB1 : Hid (Below w.heap.size w w1) := by rw [Hid, hw1]; exact below_drewN (Below.refl _ _) q1
   clear hw1
   rw [ptv_some, ptv_some, erv0]
   go_upto_region 4 with fail
   go_cut [10, 12] (fun v10 v12 wc => v10 = .pointer (some ⟨ep.g, 0, none⟩) ∧ ∃ k, v12 = .pointer (some ⟨k, 0, none⟩) ∧ RowKit.Below w.heap.size w wc ∧ Bk wc k 46 #[.int .i64 id, .int .i64 (edg x), .int .i64 (edg y)])
   case first =>
    go_wp2_with fail
    refine (HX.out _).mono ?_
    rintro e' w2 ⟨rfl, rfl⟩
    go_wp2_with fail
    refine (HY.out _).mono ?_
    rintro e' w2 ⟨rfl, rfl⟩
    go_wp2_with fail
    go_meet
    exact ⟨rfl, _, rfl, Below.on HB1.out (bel_new _ _), bk_new _ _ _⟩
   obtain ⟨rfl, k, rfl, hbc, hkc⟩ := hcut
   have HBC := hid hbc
   have HKC : Hid (∀ W : World, Below wc.heap.size wc W → k < W.heap.size ∧ W.cell? ⟨k, 0, none⟩ = some (.int .i64 id) ∧ W.cell? ⟨k, 1, none⟩ = some (.int .i64 (edg x)) ∧ W.cell? ⟨k, 2, none⟩ = some (.int .i64 (edg y))) := fun W hW => ⟨(hkc.on hW).lt, (hkc.on hW).cell 0, (hkc.on hW).cell 1, (hkc.on hW).cell 2⟩
   clear hbc hkc HF HX HY HB1
   go_upto_region 5 with fail
   refine wp_region_gate_drew (g := 11) (S := RowKit.Below wc.heap.size wc) (by kernel_rfl) ?hh (fun hHeld => ?_)
   case hh => exact ((Below.refl _ _).drew)
   generalize wc.drew = W0 at hHeld ⊢
   try dsimp only at hHeld
   refine wpAnyG_take (i := 0) (v := ?_) rfl (by kernel_rfl) (by kernel_rfl) (by kernel_rfl) (by kernel_rfl) (fun _ _ _ h => h) (Or.inl ⟨by kernel_rfl, ?hy0⟩) (by assumption) ?_
   case hy0 => (intro wI hSw; (try dsimp only at hSw); obtain ⟨t1, t2⟩ := HC.out _ (Below.on HBC.out hSw); obtain ⟨t3, t4, t5, t6⟩ := HKC.out _ hSw; go_simp; try with_reducible rfl)
   try simp only [Act.put, lqA, lqB, lqD, lqE, lqF]
   refine wpAnyG_take (i := 1) (v := ?_) rfl (by kernel_rfl) (by kernel_rfl) (by kernel_rfl) (by kernel_rfl) (fun _ _ _ h => h) (Or.inl ⟨by kernel_rfl, ?hy1⟩) (by assumption) ?_
   case hy1 => (intro wI hSw; (try dsimp only at hSw); obtain ⟨t1, t2⟩ := HC.out _ (Below.on HBC.out hSw); obtain ⟨t3, t4, t5, t6⟩ := HKC.out _ hSw; go_simp; try with_reducible rfl)
   try simp only [Act.put, lqA, lqB, lqC, lqD, lqE, lqF]
   refine wpAnyG_take (i := 2) (v := ?_) rfl (by kernel_rfl) (by kernel_rfl) (by kernel_rfl) (by kernel_rfl) (fun _ _ _ h => h) (Or.inl ⟨by kernel_rfl, ?hy2⟩) (by assumption) ?_
   case hy2 => (intro wI hSw; (try dsimp only at hSw); obtain ⟨t1, t2⟩ := HC.out _ (Below.on HBC.out hSw); obtain ⟨t3, t4, t5, t6⟩ := HKC.out _ hSw; go_simp; try with_reducible rfl)
   try simp only [Act.put, lqA, lqB, lqC, lqD, lqE, lqF]
   refine wpAnyG_take (i := 3) (v := ?_) rfl (by kernel_rfl) (by kernel_rfl) (by kernel_rfl) (by kernel_rfl) (fun _ _ _ h => h) (Or.inl ⟨by kernel_rfl, ?hy3⟩) (by assumption) ?_
   case hy3 => (intro wI hSw; (try dsimp only at hSw); obtain ⟨t1, t2⟩ := HC.out _ (Below.on HBC.out hSw); obtain ⟨t3, t4, t5, t6⟩ := HKC.out _ hSw; go_simp; try with_reducible rfl)
   try simp only [Act.put, lqA, lqB, lqC, lqD, lqE, lqF]
   refine wpAnyG_take (i := 4) (v := ?_) rfl (by kernel_rfl) (by kernel_rfl) (by kernel_rfl) (by kernel_rfl) (fun _ _ _ h => h) (Or.inl ⟨by kernel_rfl, ?hy4⟩) (by assumption) ?_
   case hy4 => (intro wI hSw; (try dsimp only at hSw); obtain ⟨t1, t2⟩ := HC.out _ (Below.on HBC.out hSw); obtain ⟨t3, t4, t5, t6⟩ := HKC.out _ hSw; go_simp; try with_reducible rfl)
   try simp only [Act.put, lqA, lqB, lqC, lqD, lqE, lqF]
   refine wpAnyG_take (i := 5) (v := ?_) rfl (by kernel_rfl) (by kernel_rfl) (by kernel_rfl) (by kernel_rfl) (fun _ _ _ h => h) (Or.inl ⟨by kernel_rfl, ?hy5⟩) (by assumption) ?_
   case hy5 => (intro wI hSw; (try dsimp only at hSw); obtain ⟨t1, t2⟩ := HC.out _ (Below.on HBC.out hSw); obtain ⟨t3, t4, t5, t6⟩ := HKC.out _ hSw; go_simp; try with_reducible rfl)
   try simp only [Act.put, lqA, lqB, lqC, lqD, lqE, lqF]
   refine wpAnyG_take (i := 6) (v := ?_) rfl (by kernel_rfl) (by kernel_rfl) (by kernel_rfl) (by kernel_rfl) (fun _ _ _ h => h) (Or.inl ⟨by kernel_rfl, ?hy6⟩) (by assumption) ?_
   case hy6 => (intro wI hSw; (try dsimp only at hSw); obtain ⟨t1, t2⟩ := HC.out _ (Below.on HBC.out hSw); obtain ⟨t3, t4, t5, t6⟩ := HKC.out _ hSw; go_simp; try with_reducible rfl)
   try simp only [Act.put, lqA, lqB, lqC, lqD, lqE, lqF]
   refine wpAnyG_ready (rs := [7]) (by kernel_rfl) (by simp) ?_
   refine AllReadyG.cons rfl (fun K hK => ?_) AllReadyG.nil
   go_simp
   go_wp2_with fail
   refine (sput_any _ _ _ _ id (edg x) (edg y) _ (HP.out _ (Below.on HBC.out hHeld)) hpn).mono ?_
   rintro e' W7 ⟨v9, rfl, ho9⟩
   obtain ⟨l9, rfl, d1, d2, d3, d4⟩ := HS.out _ _ _ (Below.on HBC.out hHeld) ho9
   have HX := hid d4
   refine hK.out _ _ (Below.on hHeld ho9.bel) (fun _ => ?_)
   have hH2 := Below.on hHeld ho9.bel
   clear hK K hHeld d4 ho9
   have hHeld := hH2
   clear hH2
   try simp only [Act.put, lqA, lqB, lqC, lqD, lqE, lqF]
   refine wpAnyG_take (i := 8) (v := ?_) rfl (by kernel_rfl) (by kernel_rfl) (by kernel_rfl) (by kernel_rfl) (fun _ _ _ h => h) (Or.inl ⟨by kernel_rfl, ?hy8⟩) (by assumption) ?_
   case hy8 => (intro wI hSw; (try dsimp only at hSw); obtain ⟨t1, t2⟩ := HC.out _ (Below.on HBC.out hSw); obtain ⟨t3, t4, t5, t6⟩ := HKC.out _ hSw; go_simp; try with_reducible rfl)
   try simp only [Act.put, lqA, lqB, lqC, lqD, lqE, lqF]
   refine wpAnyG_take (i := 9) (v := ?_) rfl (by kernel_rfl) (by kernel_rfl) (by kernel_rfl) (by kernel_rfl) (fun _ _ _ h => h) (Or.inl ⟨by kernel_rfl, ?hy9⟩) (by assumption) ?_
   case hy9 => (intro wI hSw; (try dsimp only at hSw); obtain ⟨t1, t2⟩ := HC.out _ (Below.on HBC.out hSw); obtain ⟨t3, t4, t5, t6⟩ := HKC.out _ hSw; go_simp; try with_reducible rfl)
   try simp only [Act.put, lqA, lqB, lqC, lqD, lqE, lqF]
   refine wpAnyG_take (i := 10) (v := ?_) rfl (by kernel_rfl) (by kernel_rfl) (by kernel_rfl) (by kernel_rfl) (fun _ _ _ h => h) (Or.inl ⟨by kernel_rfl, ?hy10⟩) (by assumption) ?_
   case hy10 => (intro wI hSw; (try dsimp only at hSw); obtain ⟨t1, t2⟩ := HC.out _ (Below.on HBC.out hSw); obtain ⟨t3, t4, t5, t6⟩ := HKC.out _ hSw; go_simp; try with_reducible rfl)
   try simp only [Act.put, lqA, lqB, lqC, lqD, lqE, lqF]
   have hG := hHeld
   clear hHeld
   have hHeld : True := trivial
   refine wpAnyG_gateOp rfl (by kernel_rfl) (fun K hK => ?_)
   go_simp
   refine hK.out _ _ trivial (fun _ => ?_)
   clear hK K
   try simp only [Act.put, lqA, lqB, lqC, lqD, lqE, lqF]
   refine wpAnyH_done (by kernel_rfl) ?_ _
   go_wp2_with fail
   go_ret
   exact ⟨rfl, HX.out⟩
  ·have h0' : e.s.par = 0 := by simpa using h0
   have HT : Hid (fs1 L id = none ∧ fs2 L id = none ∧ unsE (pab L) id = 10) := ⟨by rw [fs1, hq]; simp [h0'], by rw [fs2, hq]; simp [h0'], by rw [unsE, gt_pab, hq]; simp [Sr.f, h0']⟩
   have HX : Hid (∀ q, PfR base w p m L (posF (pab L) id x y) (w.drewN q) L) := fun q => (PfR.refl h (below_drewN (Below.refl _ _) q)).as (by rw [posF, gt_pab, hq]; simp [Sr.f, h0'])
   rw [HT.out.1, HT.out.2.1, HT.out.2.2] at HF
   rw [HT.out.2.2]
   clear hq h hE HT hN h0' hL
   go_enter Tryz.func47, Tryz.ntmps47
   go_wp2_with fail
   refine HF.out.mono ?_
   rintro e w1 ⟨rfl, q1, rfl⟩
   rw [ptv_none, erv_succ]
   go_wp2
   go_ret
   exact ⟨rfl, L, HX.out q1⟩
theorem fplace_any (hE : Fe w es) (h : Pf base w p m L) (hN : Nok L) (hL : Few L) (id y : Int) (hi : Bt id) (b : Nat) (g : Nat) (eg : ∀ args w, (callFunc g args).run Tryz.prog w = .ok (.enter g args) w)
  (hg : ∀ (a : Option Addr) (n c : Nat) (l : List Int) (id y : Int) (w : World) (p : Addr), Pl w p → Rz w a n c l → n ≤ 1000000 → Calls Tryz.prog g (#[.slice a n c, .int .i64 id, .int .i64 y] ++ #[]) w fun e w' => BesR w p (bes l id y b) e w') :
  Calls Tryz.prog 95 #[.pointer (some ⟨p, 0, none⟩), .int .i64 id, .int .i64 y, .func (.func g) #[] #[]] w fun e w' => e = .returned (erv es (putE (pab L) id y b)) ∧ ∃ L', PfR base w p m L (putF (pab L) id y b) w' L' := by
 have HF := hid (ffindsub_any hE h id hi (fun e he => (hN.key id e he).2))
 cases hq : gt L id with
 | none =>
  have HT : Hid (fs1 L id = none ∧ fs2 L id = none ∧ unsE (pab L) id = 5) := ⟨by rw [fs1, hq], by rw [fs2, hq], by rw [unsE, gt_pab, hq]; rfl⟩
  have HX : Hid (∀ q, PfR base w p m L (putF (pab L) id y b) (w.drewN q) L) := fun q => (PfR.refl h (below_drewN (Below.refl _ _) q)).as (by rw [putF, putL, gt_pab, hq]; rfl)
  have HV : Hid (putE (pab L) id y b = 5) := by rw [Hid, putE, HT.out.2.2]; rfl
  rw [HT.out.1, HT.out.2.1, HT.out.2.2] at HF
  rw [HV.out]
  clear hq h hE HT hN hL HV
  go_enter Tryz.func95, Tryz.ntmps95
  go_wp2_with fail
  refine HF.out.mono ?_
  rintro e w1 ⟨rfl, q1, rfl⟩
  rw [ptv_none, erv_succ]
  go_wp2
  go_ret
  exact ⟨rfl, L, HX.out q1⟩
 | some e =>
  cases h0 : (e.s.par == 0)
  ·have h0' : e.s.par ≠ 0 := by simpa using h0
   obtain ⟨ep, hep, hpt⟩ := hN.up hq h0'
   have HT : Hid (fs1 L id = some e.g ∧ fs2 L id = some ep.g ∧ unsE (pab L) id = 0) := ⟨by rw [fs1, hq]; simp [h0'], by rw [fs2, hq]; simp [h0', hpt], by rw [unsE, gt_pab, hq]; simp [Sr.f, h0']⟩
   rw [HT.out.1, HT.out.2.1, HT.out.2.2] at HF
   have HPL : Hid (putL (pab L) id y b = if y = e.s.par then (bes (un1 (lat ep.s.f)) id 0 b).map fun m => (e.s.par, m) else if y = 0 then none else (bes (un1 (lat ep.s.f)) id y b).map fun m => (e.s.par, m)) := by
    rw [Hid, putL, gt_pab, hq]
    simp only [Option.map_some, Sr.f, h0', if_false]
    rw [gt_pab, hep]
    rfl
   have HPE : Hid (∀ r, putL (pab L) id y b = r → putE (pab L) id y b = match r with | none => 11 | some _ => 0) := fun r hr => by rw [putE, HT.out.2.2, ← hr]; rfl
   cases hy : (y == 0)
   ·have hy' : y ≠ 0 := by simpa using hy
    obtain ⟨y', hyy⟩ : ∃ y', y' = if y = e.s.par then 0 else y := ⟨_, rfl⟩
    have HPL2 : Hid (putL (pab L) id y b = (bes (un1 (lat ep.s.f)) id y' b).map fun m => (e.s.par, m)) := by
     rw [Hid, HPL.out, hyy]
     by_cases e1 : y = e.s.par
     ·rw [if_pos e1, if_pos e1]
     ·rw [if_neg e1, if_neg e1, if_neg hy']
    have HE := hid hE
    have H := hid h
    have HEP := hid hep
    have hln := hL.lat hep
    have hlt := (h.wlt hq (mem_wb.2 (.inl rfl))).2
    have c1 : w.cell? ⟨e.g, 30, none⟩ = some (.int .i64 e.s.par) := h.cell hq
    have HG := hid hg
    have HYY := hid hyy
    clear hq h hE HT hN hL h0' h0 hep hpt HPL hg hyy hy'
    go_enter Tryz.func95, Tryz.ntmps95
    go_wp2_with fail
    refine HF.out.mono ?_
    rintro e' w1 ⟨rfl, q1, rfl⟩
    rw [ptv_some, ptv_some, erv0]
    clear HF
    have HQ := hid (H.out.drewN q1)
    go_upto_if 31 with fail
    go_cut [0, 1, 2, 3, 10] (fun v0 v1 v2 v3 v10 wc => v0 = .pointer (some ⟨p, 0, none⟩) ∧ v1 = .int .i64 id ∧ v2 = .int .i64 y' ∧ v3 = .func (.func g) #[] #[] ∧ v10 = .pointer (some ⟨ep.g, 0, none⟩) ∧ wc = w.drewN q1)
    case first =>
     cases e1 : (y == e.s.par)
     ·have e1' : y' = y := by rw [HYY.out, if_neg (by simpa using e1)]
      go_wp2_with fail
      go_meet
      rw [e1']
      exact ⟨rfl, rfl, rfl, rfl, rfl, rfl⟩
     ·have e1' : y' = 0 := by rw [HYY.out, if_pos (by simpa using e1)]
      go_wp2_with fail
      go_meet
      rw [e1']
      exact ⟨rfl, rfl, rfl, rfl, rfl, rfl⟩
    obtain ⟨rfl, rfl, rfl, rfl, rfl, rfl⟩ := hcut
    clear c1 hlt HYY
    go_wp2_with fail
    refine (flatest_any HQ.out HEP.out).mono ?_
    rintro e' w2 ⟨rfl, rfl⟩
    rw [Sl.v]
    have hrz := rz_of_rdm (latS_ok (HQ.out.rows _ _ HEP.out).ok)
    rw [un1_lat] at hrz
    have HB := hid (HG.out _ _ _ _ id y' _ _ (HE.out.drewN q1).pl hrz (by omega))
    clear hrz
    go_wp2_with fail
    refine HB.out.mono ?_
    clear HB HG
    intro e' w2 hres
    cases hbs : bes (un1 (lat ep.s.f)) id y' b with
    | none =>
     have HV : Hid (putL (pab L) id y b = none) := by rw [Hid, HPL2.out, hbs]; rfl
     have HX : Hid (putE (pab L) id y b = 11 ∧ putF (pab L) id y b = pab L) := ⟨HPE.out _ HV.out, by rw [putF, HV.out]⟩
     rw [hbs] at hres
     obtain ⟨rfl, hb2⟩ := hres
     have HX2 := hid (PfR.refl H.out (Below.on (below_drewN (Below.refl _ _) q1) hb2))
     clear hbs hb2
     go_wp2
     go_ret
     rw [HX.out.1, HX.out.2]
     exact ⟨rfl, _, HX2.out⟩
    | some mm =>
     have HV : Hid (putL (pab L) id y b = some (e.s.par, mm)) := by rw [Hid, HPL2.out, hbs]; rfl
     have HX : Hid (putE (pab L) id y b = 0 ∧ putF (pab L) id y b = upd (pab L) e.s.par (ordS (sg mm))) := ⟨HPE.out _ HV.out, by rw [putF, HV.out]⟩
     rw [hbs] at hres
     obtain ⟨v2, rfl, ho2⟩ := hres
     obtain ⟨l2, rfl, hl1, hl2, hl3⟩ := sl_of_owz ho2
     have HR := hid (freorder_any (w0 := w) (w := w2) H.out HEP.out (Below.on (below_drewN (Below.refl _ _) q1) ho2.bel) l2 hl2 (fun y hy _ => hl3 y hy))
     have HL1 := hid hl1
     clear hbs ho2 hl1 hl2 hl3
     go_wp2_with fail
     refine HR.out.mono ?_
     rintro e' w3 ⟨rfl, hr3⟩
     have HR3 := hid hr3
     clear hr3 HR
     go_wp2
     go_ret
     rw [HX.out.1, HX.out.2, ← HL1.out]
     exact ⟨rfl, _, HR3.out⟩
   ·have hy' : y = 0 := by simpa using hy
    have HV : Hid (putL (pab L) id y b = none) := by
     rw [Hid, HPL.out, if_neg (by rw [hy']; exact fun e1 => h0' e1.symm), if_pos hy']
    have HX : Hid (putE (pab L) id y b = 11) := HPE.out _ HV.out
    have HX2 : Hid (∀ q, PfR base w p m L (putF (pab L) id y b) (w.drewN q) L) := fun q => (PfR.refl h (below_drewN (Below.refl _ _) q)).as (by rw [putF, HV.out])
    have c1 := hE.plc
    have l1 := World.block_lt_of_cell? _ _ c1
    rw [HX.out]
    clear hq h hE HT hN hL h0' h0 hep hpt HPL HPE hg HV HX hy'
    go_enter Tryz.func95, Tryz.ntmps95
    go_wp2_with fail
    refine HF.out.mono ?_
    rintro e' w1 ⟨rfl, q1, rfl⟩
    rw [ptv_some, ptv_some, erv0]
    go_wp2
    go_ret
    exact ⟨rfl, _, HX2.out q1⟩
  ·have h0' : e.s.par = 0 := by simpa using h0
   have HT : Hid (fs1 L id = none ∧ fs2 L id = none ∧ unsE (pab L) id = 10) := ⟨by rw [fs1, hq]; simp [h0'], by rw [fs2, hq]; simp [h0'], by rw [unsE, gt_pab, hq]; simp [Sr.f, h0']⟩
   have HX : Hid (∀ q, PfR base w p m L (putF (pab L) id y b) (w.drewN q) L) := fun q => (PfR.refl h (below_drewN (Below.refl _ _) q)).as (by rw [putF, putL, gt_pab, hq]; simp [Sr.f, h0'])
   have HV : Hid (putE (pab L) id y b = 10) := by rw [Hid, putE, HT.out.2.2]; rfl
   rw [HT.out.1, HT.out.2.1, HT.out.2.2] at HF
   rw [HV.out]
   clear hq h hE HT hN h0' hL HV
   go_enter Tryz.func95, Tryz.ntmps95
   go_wp2_with fail
   refine HF.out.mono ?_
   rintro e w1 ⟨rfl, q1, rfl⟩
   rw [ptv_none, erv_succ]
   go_wp2
   go_ret
   exact ⟨rfl, L, HX.out q1⟩
theorem fabove_any (hE : Fe w es) (h : Pf base w p m L) (hN : Nok L) (hL : Few L) (id y : Int) (hi : Bt id) :
  Calls Tryz.prog 49 #[.pointer (some ⟨p, 0, none⟩), .int .i64 id, .int .i64 y] w fun e w' => e = .returned (erv es (putE (pab L) id y 1)) ∧ ∃ L', PfR base w p m L (putF (pab L) id y 1) w' L' := by
 have HP := hid (fplace_any hE h hN hL id y hi 1 96 (enters_of Tryz.func96 (by kernel_rfl) rfl) (fun a n c l id y w p hp hr hn => oabove_any a n c l id y w p hp hr hn))
 clear hE h hN hL
 go_enter Tryz.func49, Tryz.ntmps49
 go_wp2_with fail
 refine HP.out.mono ?_
 rintro e w1 ⟨rfl, hx⟩
 have HX := hid hx
 clear hx
 go_wp2
 go_ret
 exact ⟨rfl, HX.out⟩
theorem fbelow_any (hE : Fe w es) (h : Pf base w p m L) (hN : Nok L) (hL : Few L) (id y : Int) (hi : Bt id) :
  Calls Tryz.prog 51 #[.pointer (some ⟨p, 0, none⟩), .int .i64 id, .int .i64 y] w fun e w' => e = .returned (erv es (putE (pab L) id y 0)) ∧ ∃ L', PfR base w p m L (putF (pab L) id y 0) w' L' := by
 have HP := hid (fplace_any hE h hN hL id y hi 0 99 (enters_of Tryz.func99 (by kernel_rfl) rfl) (fun a n c l id y w p hp hr hn => obelow_any a n c l id y w p hp hr hn))
 clear hE h hN hL
 go_enter Tryz.func51, Tryz.ntmps51
 go_wp2_with fail
 refine HP.out.mono ?_
 rintro e w1 ⟨rfl, hx⟩
 have HX := hid hx
 clear hx
 go_wp2
 go_ret
 exact ⟨rfl, HX.out⟩
end
section
def sqF : Sq := ⟨false, 0, [], [], false, true, [], false, [[0]], []⟩
theorem rdm_one1 {w : World} {B T : Nat} {z : Int} (h : Bk w B T #[.int .i64 z]) : RdM 1 w (some ⟨B, 0, none⟩) 1 1 [[z]] :=
 ⟨rfl, Nat.le_refl _, by decide, (fun h => by cases h), fun _ => ⟨B, 0, rfl, h.lt, fun j y hy i t ht => by
  match j, hy with
  | 0, hy =>
   cases hy
   match i, ht with
   | 0, ht => cases ht; exact h.cell 0
   | i + 1, ht => simp at ht
  | j + 1, hy => simp at hy⟩, by simp⟩
theorem firsto_any (w : World) : Calls Tryz.prog 57 #[] w (Rso w sqF) := by
 obtain ⟨r, hr⟩ : ∃ r : Sx, r = { sx0 with all := true, od := ⟨some ⟨w.heap.size + 1, 0, none⟩, 1, 1, [[0]]⟩ } := ⟨_, rfl⟩
 have hk := bk_new (w.alloc (.cells #[.bool r.at_, .int .i64 r.buf, .slice r.dm.a r.dm.n r.dm.c, .slice r.fr.a r.fr.n r.fr.c, .bool r.inp, .bool r.all, .slice r.rg.a r.rg.n r.rg.c, .bool r.ord, .slice r.od.a r.od.n r.od.c, .slice r.pl.a r.pl.n r.pl.c] 72)) #[.int .i64 0] 3
 have hb := Below.on (bel_new w (.cells #[.bool r.at_, .int .i64 r.buf, .slice r.dm.a r.dm.n r.dm.c, .slice r.fr.a r.fr.n r.fr.c, .bool r.inp, .bool r.all, .slice r.rg.a r.rg.n r.rg.c, .bool r.ord, .slice r.od.a r.od.n r.od.c, .slice r.pl.a r.pl.n r.pl.c] 72)) (bel_new (w.alloc (.cells #[.bool r.at_, .int .i64 r.buf, .slice r.dm.a r.dm.n r.dm.c, .slice r.fr.a r.fr.n r.fr.c, .bool r.inp, .bool r.all, .slice r.rg.a r.rg.n r.rg.c, .bool r.ord, .slice r.od.a r.od.n r.od.c, .slice r.pl.a r.pl.n r.pl.c] 72)) (.cells #[.int .i64 0] 3))
 have hz := (bs_new w r).on (bel_new (w.alloc (.cells #[.bool r.at_, .int .i64 r.buf, .slice r.dm.a r.dm.n r.dm.c, .slice r.fr.a r.fr.n r.fr.c, .bool r.inp, .bool r.all, .slice r.rg.a r.rg.n r.rg.c, .bool r.ord, .slice r.od.a r.od.n r.od.c, .slice r.pl.a r.pl.n r.pl.c] 72)) (.cells #[.int .i64 0] 3))
 rw [size_new] at hk
 subst hr
 have HK := hid hk
 have HB := hid hb
 have HZ := hid hz
 clear hk hb hz
 go_enter Tryz.func57, Tryz.ntmps57
 go_wp2
 refine bodyPost_ret (results_cell_row rfl _ _ w.heap.size _ _ _ _ rfl HZ.out.bk.obj Tryz.underlying72 rfl infoSt) rfl ?_
 exact ⟨_, rfl, ⟨RdM.nil _ _, RdM.nil _ _, RdM.nil _ _, rdm_one1 HK.out, RdM.nil _ _⟩, ⟨(fun y e => by cases e), (fun y e => by cases e), (fun y e => by cases e), (fun y e => by cases e; show w.heap.size ≤ w.heap.size + 1; omega), (fun y e => by cases e)⟩, rfl, HB.out, World.ownsRow_nil _ _ _ _, (fun y e => by cases e)⟩
end
end Go.Proofs.YtkjempffidndeaaGreatDoor
