/- Lemmas that the proof leans on. -/
import Derived.Test.YtkjempffidndeaaGreatDoorB23
namespace Go.Proofs.YtkjempffidndeaaGreatDoor
open Go Go.RowKit
open List renaming getElem_toArray → lqA, getElem_cons_zero → lqB, getElem_cons_succ → lqC, setIfInBounds_toArray → lqD, set_cons_zero → lqE, set_cons_succ → lqF
set_option maxRecDepth 100000
set_option maxHeartbeats 4000000
section
variable {base B : Nat} {w u w' : World} {p m : Nat} {L L' : Po} {F : Fo} {id : Int} {es : List Addr} {e : Ps}
theorem Fok.cacs {mm : Nat} (h : Fok mm F) (id : Int) : Fok mm (upd F id cacS) := ⟨h.inv.cacs id, h.nof.turn _ _ fun _ _ hs => hs.cacs, h.szf.turn (Nat.le_refl mm) _ _ fun _ hs => hs.cacs, h.bof.turn _ _ fun _ hs => hs.cacs⟩
theorem Fok.apls {mm : Nat} (h : Fok mm F) (id : Int) : Fok mm (upd F id aplS) := ⟨h.inv.apls id, h.nof.turn _ _ fun _ _ hs => hs.apls, h.szf.turn (Nat.le_refl mm) _ _ fun _ hs => hs.apls, h.bof.turn _ _ fun _ hs => hs.apls⟩
theorem ic_mcs (l : List Int) : mcs (sg l) = ic l := by
 induction l with
 | nil => rfl
 | cons z l ih =>
  rw [sg, List.map_cons, mcs_cons]
  rw [sg] at ih
  rw [ih]
  rfl
theorem PfR.ext (h : PfR base w p m L F w' L') (h0 : Pf base w p m L) {b : Nat} (hb : w.heap.size ≤ b) (hn : b ∉ wbs L') (ho : Ofr L' b) {w2 : World} (hk : Kp [b] w' w2) : PfR base w p m L F w2 L' := by
 obtain ⟨l1, l2⟩ := h0.lt
 refine ⟨h.pf.kept hk (by simp only [List.mem_cons, List.not_mem_nil, or_false]; omega) (by simp only [List.mem_cons, List.not_mem_nil, or_false]; omega) (fun x e he => ⟨fun c hc hm => ?_, fun z hz c hc => ?_⟩), h.ab, h.kp.trans hk (fun c hc hlt => by simp only [List.mem_cons, List.not_mem_nil, or_false] at hc; omega), h.new, h.ofr⟩
 ·simp only [List.mem_cons, List.not_mem_nil, or_false] at hm
  rw [hm] at hc
  exact hn ((mem_wbs h.pf.nd).2 ⟨x, e, he, hc⟩)
 ·simp only [List.mem_cons, List.not_mem_nil, or_false] at hc
  rw [hc]
  exact ho x e he z hz
theorem Pf.newb (h : Pf base w p m L) {b : Nat} (hb : w.heap.size ≤ b) : b ∉ wbs L ∧ Ofr L b := by
 refine ⟨fun hm => ?_, fun x e he z hz => (h.rows x e he).ros hz hb⟩
 obtain ⟨x, e, he, hb2⟩ := (mem_wbs h.nd).1 hm
 have := (h.wlt he hb2).2
 omega
def CoR (base : Nat) (w : World) (p m : Nat) (L : Po) (es : List Addr) (id : Int) (e' : Ending) (w' : World) : Prop := ∃ L' vl, e' = .returned (.tuple #[vl, erv es (hasE (pab L) id)]) ∧ w'.ownsRow w.heap.size 3 1 vl (comF 41 (pab L) id).2.length (ic (comF 41 (pab L) id).2) ∧ PfR base w p m L (comF 41 (pab L) id).1 w' L'
theorem fcommit_any {mm : Nat} (hm : mm ≤ 900) (hE : Fe w es) (hB : 16 ≤ base) (h : Pf base w p m L) (hF : Fok mm (pab L)) (id : Int) (hi : Bt id) :
  Calls Tryz.prog 21 #[.pointer (some ⟨p, 0, none⟩), .int .i64 id] w (CoR base w p m L es id) := by
 have HF := hid (ffind_any hE h id hi)
 cases hq : gt L id with
 | none =>
  have hs : gt (pab L) id = none := by rw [gt_pab, hq]; rfl
  have HS : Hid (pto L id = none ∧ hasE (pab L) id = 5) := ⟨by rw [pto, hq]; rfl, by rw [hasE, hs]⟩
  have HX : Hid (∀ q, CoR base w p m L es id (.returned (.tuple #[.slice none 0 0, erv es 5])) (w.drewN q)) := fun q => ⟨L, .slice none 0 0, by rw [HS.out.2], by rw [comF_eq, hs]; exact World.ownsRow_nil _ _ _ _, (PfR.refl h (below_drewN (Below.refl _ _) q)).as (by rw [comF_eq, hs])⟩
  rw [HS.out.1, HS.out.2] at HF
  clear hq h hE HS hF hs
  go_enter Tryz.func21, Tryz.ntmps21
  go_wp2_with fail
  refine HF.out.mono ?_
  rintro e' w1 ⟨rfl, q1, rfl⟩
  rw [ptv_none]
  have HY := hid (HX.out q1)
  rw [erv_succ] at HY ⊢
  go_wp2
  go_ret2
  exact HY.out
 | some e =>
  have hs : gt (pab L) id = some e.s.f := by rw [gt_pab, hq]; rfl
  have HS : Hid (pto L id = some e.g ∧ hasE (pab L) id = 0) := ⟨by rw [pto, hq]; rfl, by rw [hasE, hs]⟩
  rw [HS.out.1, HS.out.2] at HF
  have HC : Hid (∀ W : World, Below w.heap.size w W → (W.cell? ⟨e.g, 0, none⟩ = some (.bool e.s.pe.at_) ∧ W.cell? ⟨e.g, 1, none⟩ = some (.int .i64 e.s.pe.buf) ∧ W.cell? ⟨e.g, 2, none⟩ = some (.slice e.s.pe.dm.a e.s.pe.dm.n e.s.pe.dm.c) ∧ W.cell? ⟨e.g, 3, none⟩ = some (.slice e.s.pe.fr.a e.s.pe.fr.n e.s.pe.fr.c) ∧ W.cell? ⟨e.g, 4, none⟩ = some (.bool e.s.pe.inp) ∧ W.cell? ⟨e.g, 5, none⟩ = some (.bool e.s.pe.all) ∧ W.cell? ⟨e.g, 6, none⟩ = some (.slice e.s.pe.rg.a e.s.pe.rg.n e.s.pe.rg.c) ∧ W.cell? ⟨e.g, 7, none⟩ = some (.bool e.s.pe.ord) ∧ W.cell? ⟨e.g, 8, none⟩ = some (.slice e.s.pe.od.a e.s.pe.od.n e.s.pe.od.c) ∧ W.cell? ⟨e.g, 9, none⟩ = some (.slice e.s.pe.pl.a e.s.pe.pl.n e.s.pe.pl.c)) ∧ (W.cell? ⟨e.g, 10, none⟩ = some (.bool e.s.ca.at_) ∧ W.cell? ⟨e.g, 11, none⟩ = some (.int .i64 e.s.ca.buf) ∧ W.cell? ⟨e.g, 12, none⟩ = some (.slice e.s.ca.dm.a e.s.ca.dm.n e.s.ca.dm.c) ∧ W.cell? ⟨e.g, 13, none⟩ = some (.slice e.s.ca.fr.a e.s.ca.fr.n e.s.ca.fr.c) ∧ W.cell? ⟨e.g, 14, none⟩ = some (.bool e.s.ca.inp) ∧ W.cell? ⟨e.g, 15, none⟩ = some (.bool e.s.ca.all) ∧ W.cell? ⟨e.g, 16, none⟩ = some (.slice e.s.ca.rg.a e.s.ca.rg.n e.s.ca.rg.c) ∧ W.cell? ⟨e.g, 17, none⟩ = some (.bool e.s.ca.ord) ∧ W.cell? ⟨e.g, 18, none⟩ = some (.slice e.s.ca.od.a e.s.ca.od.n e.s.ca.od.c) ∧ W.cell? ⟨e.g, 19, none⟩ = some (.slice e.s.ca.pl.a e.s.ca.pl.n e.s.ca.pl.c)) ∧ e.g < W.heap.size ∧ (∀ j, W.frozen? ⟨e.g, j, none⟩ = false) ∧ e.s.ca.Ok W ∧ e.s.pe.Ok W) := fun W hW => by
   have h1 := h.on hW
   exact ⟨(h1.cells hq).1, (h1.cells hq).2.1, (h1.wlt hq (mem_wb.2 (.inl rfl))).2, h1.fz hq, (h1.rows id e hq).ok.ca, (h1.rows id e hq).ok.pe⟩
  have HFIN : Hid (∀ (W W1 : World) (r : Sx), Below w.heap.size w W → Below W.heap.size W W1 → r.Ok W1 → r.New W.heap.size → r.q = mrg e.s.ca.q e.s.pe.q → W1.ownsRow W.heap.size 46 3 (.slice r.pl.a r.pl.n r.pl.c) r.pl.n (mcs r.pl.l) → r.Plf → PfR base w p m L (upd (pab L) id cacS) (sto (sto W1 e.g 10 r) e.g 0 sx0) (st L id ⟨e.g, { e.s with ca := r, pe := sx0 }⟩)) := fun W W1 r hb hb1 ok nw hq' ho hp => h.com1 hq hb hb1 ok nw hq' ho hp
  obtain ⟨l1, l2, l3⟩ := hF.len hm h hq
  have HL1 := hid l1
  have HL2 := hid l2
  have HG1 : Hid (∀ s', gt (st L id ⟨e.g, s'⟩) id = some ⟨e.g, s'⟩) := fun s' => by rw [gt_st, if_pos rfl, hq]; rfl
  have HFK := hid hF
  have HP := hid h
  have HE := hid hE
  have HS2 := hid hs
  have HS1 := hid HS.out.2
  clear hq h hE HS hF hs l1 l2 l3
  go_enter Tryz.func21, Tryz.ntmps21
  go_wp2_with fail
  refine HF.out.mono ?_
  rintro e' w1 ⟨rfl, q1, hw1⟩
  have HB1 : Hid (Below w.heap.size w w1) := by rw [Hid, hw1]; exact below_drewN (Below.refl _ _) q1
  clear hw1 HF
  rw [ptv_some, erv0]
  go_upto_region 4 with fail
  go_cut [] (fun wc => ∃ r, PfR base w p m L (upd (pab L) id cacS) wc (st L id ⟨e.g, { e.s with ca := r, pe := sx0 }⟩))
  case first =>
   refine wp_region_gate_drew (g := 14) (S := RowKit.Below w.heap.size w) (by kernel_rfl) ?hh (fun hHeld => ?_)
   case hh => exact (Below.on HB1.out (Below.refl _ _).drew)
   generalize w1.drew = W0 at hHeld ⊢
   try dsimp only at hHeld
   refine wpAnyG_take (i := 0) (v := ?_) rfl (by kernel_rfl) (by kernel_rfl) (by kernel_rfl) (by kernel_rfl) (fun _ _ _ h => h) (Or.inl ⟨by kernel_rfl, ?hy0⟩) (by assumption) ?_
   case hy0 => (intro wI hSw; (try dsimp only at hSw); obtain ⟨⟨a0, a1, a2, a3, a4, a5, a6, a7, a8, a9⟩, ⟨b0, b1, b2, b3, b4, b5, b6, b7, b8, b9⟩, t1, t2, -, -⟩ := HC.out _ hSw; go_simp; try with_reducible rfl)
   try simp only [Act.put, lqA, lqB, lqD, lqE, lqF]
   refine wpAnyG_takeFree (i := 1) (v := ?_) rfl (by kernel_rfl) (by kernel_rfl) (by kernel_rfl) (by kernel_rfl) (fun _ _ _ h => h) (Or.inl ⟨by kernel_rfl, ?hy1⟩) (by assumption) ?_
   case hy1 => (intro wI _; go_simp; try with_reducible rfl)
   try simp only [Act.put, lqA, lqB, lqC, lqD, lqE, lqF]
   refine wpAnyG_take (i := 2) (v := ?_) rfl (by kernel_rfl) (by kernel_rfl) (by kernel_rfl) (by kernel_rfl) (fun _ _ _ h => h) (Or.inl ⟨by kernel_rfl, ?hy2⟩) (by assumption) ?_
   case hy2 => (intro wI hSw; (try dsimp only at hSw); obtain ⟨⟨a0, a1, a2, a3, a4, a5, a6, a7, a8, a9⟩, ⟨b0, b1, b2, b3, b4, b5, b6, b7, b8, b9⟩, t1, t2, -, -⟩ := HC.out _ hSw; go_simp; try with_reducible rfl)
   try simp only [Act.put, lqA, lqB, lqC, lqD, lqE, lqF]
   refine wpAnyG_take (i := 3) (v := ?_) rfl (by kernel_rfl) (by kernel_rfl) (by kernel_rfl) (by kernel_rfl) (fun _ _ _ h => h) (Or.inl ⟨by kernel_rfl, ?hy3⟩) (by assumption) ?_
   case hy3 => (intro wI hSw; (try dsimp only at hSw); obtain ⟨⟨a0, a1, a2, a3, a4, a5, a6, a7, a8, a9⟩, ⟨b0, b1, b2, b3, b4, b5, b6, b7, b8, b9⟩, t1, t2, -, -⟩ := HC.out _ hSw; go_simp; try with_reducible rfl)
   try simp only [Act.put, lqA, lqB, lqC, lqD, lqE, lqF]
   refine wpAnyG_take (i := 4) (v := ?_) rfl (by kernel_rfl) (by kernel_rfl) (by kernel_rfl) (by kernel_rfl) (fun _ _ _ h => h) (Or.inl ⟨by kernel_rfl, ?hy4⟩) (by assumption) ?_
   case hy4 => (intro wI hSw; (try dsimp only at hSw); obtain ⟨⟨a0, a1, a2, a3, a4, a5, a6, a7, a8, a9⟩, ⟨b0, b1, b2, b3, b4, b5, b6, b7, b8, b9⟩, t1, t2, -, -⟩ := HC.out _ hSw; go_simp; try with_reducible rfl)
   try simp only [Act.put, lqA, lqB, lqC, lqD, lqE, lqF]
   refine wpAnyG_take (i := 5) (v := ?_) rfl (by kernel_rfl) (by kernel_rfl) (by kernel_rfl) (by kernel_rfl) (fun _ _ _ h => h) (Or.inl ⟨by kernel_rfl, ?hy5⟩) (by assumption) ?_
   case hy5 => (intro wI hSw; (try dsimp only at hSw); obtain ⟨⟨a0, a1, a2, a3, a4, a5, a6, a7, a8, a9⟩, ⟨b0, b1, b2, b3, b4, b5, b6, b7, b8, b9⟩, t1, t2, -, -⟩ := HC.out _ hSw; go_simp; try with_reducible rfl)
   try simp only [Act.put, lqA, lqB, lqC, lqD, lqE, lqF]
   refine wpAnyG_take (i := 6) (v := ?_) rfl (by kernel_rfl) (by kernel_rfl) (by kernel_rfl) (by kernel_rfl) (fun _ _ _ h => h) (Or.inl ⟨by kernel_rfl, ?hy6⟩) (by assumption) ?_
   case hy6 => (intro wI hSw; (try dsimp only at hSw); obtain ⟨⟨a0, a1, a2, a3, a4, a5, a6, a7, a8, a9⟩, ⟨b0, b1, b2, b3, b4, b5, b6, b7, b8, b9⟩, t1, t2, -, -⟩ := HC.out _ hSw; go_simp; try with_reducible rfl)
   try simp only [Act.put, lqA, lqB, lqC, lqD, lqE, lqF]
   refine wpAnyG_take (i := 7) (v := ?_) rfl (by kernel_rfl) (by kernel_rfl) (by kernel_rfl) (by kernel_rfl) (fun _ _ _ h => h) (Or.inl ⟨by kernel_rfl, ?hy7⟩) (by assumption) ?_
   case hy7 => (intro wI hSw; (try dsimp only at hSw); obtain ⟨⟨a0, a1, a2, a3, a4, a5, a6, a7, a8, a9⟩, ⟨b0, b1, b2, b3, b4, b5, b6, b7, b8, b9⟩, t1, t2, -, -⟩ := HC.out _ hSw; go_simp; try with_reducible rfl)
   try simp only [Act.put, lqA, lqB, lqC, lqD, lqE, lqF]
   refine wpAnyG_take (i := 8) (v := ?_) rfl (by kernel_rfl) (by kernel_rfl) (by kernel_rfl) (by kernel_rfl) (fun _ _ _ h => h) (Or.inl ⟨by kernel_rfl, ?hy8⟩) (by assumption) ?_
   case hy8 => (intro wI hSw; (try dsimp only at hSw); obtain ⟨⟨a0, a1, a2, a3, a4, a5, a6, a7, a8, a9⟩, ⟨b0, b1, b2, b3, b4, b5, b6, b7, b8, b9⟩, t1, t2, -, -⟩ := HC.out _ hSw; go_simp; try with_reducible rfl)
   try simp only [Act.put, lqA, lqB, lqC, lqD, lqE, lqF]
   refine wpAnyG_take (i := 9) (v := ?_) rfl (by kernel_rfl) (by kernel_rfl) (by kernel_rfl) (by kernel_rfl) (fun _ _ _ h => h) (Or.inl ⟨by kernel_rfl, ?hy9⟩) (by assumption) ?_
   case hy9 => (intro wI hSw; (try dsimp only at hSw); obtain ⟨⟨a0, a1, a2, a3, a4, a5, a6, a7, a8, a9⟩, ⟨b0, b1, b2, b3, b4, b5, b6, b7, b8, b9⟩, t1, t2, -, -⟩ := HC.out _ hSw; go_simp; try with_reducible rfl)
   try simp only [Act.put, lqA, lqB, lqC, lqD, lqE, lqF]
   refine wpAnyG_takeFree (i := 11) (v := ?_) rfl (by kernel_rfl) (by kernel_rfl) (by kernel_rfl) (by kernel_rfl) (fun _ _ _ h => h) (Or.inl ⟨by kernel_rfl, ?hy11⟩) (by assumption) ?_
   case hy11 => (intro wI _; go_simp; try with_reducible rfl)
   try simp only [Act.put, lqA, lqB, lqC, lqD, lqE, lqF]
   refine wpAnyG_ready (rs := [10]) (by kernel_rfl) (by simp) ?_
   refine AllReadyG.cons rfl (fun K hK => ?_) AllReadyG.nil
   go_simp
   go_wp2_with fail
   refine (mergeo_any e.s.ca e.s.pe _ (HC.out _ hHeld).2.2.2.2.1 (HC.out _ hHeld).2.2.2.2.2 HL2.out HL1.out).mono ?_
   rintro e' W10 ⟨r, rfl, okr, nwr, hqr, hbr, owr, plr⟩
   have HX := hid (HFIN.out _ _ r hHeld hbr okr nwr hqr owr plr)
   have hH2 := Below.on hHeld hbr
   refine hK.out _ _ hH2 (fun _ => ?_)
   clear hK K hHeld okr nwr hqr owr plr hbr
   have hHeld := hH2
   clear hH2
   try simp only [Act.put, lqA, lqB, lqC, lqD, lqE, lqF]
   refine wpAnyG_take (i := 12) (v := ?_) rfl (by kernel_rfl) (by kernel_rfl) (by kernel_rfl) (by kernel_rfl) (fun _ _ _ h => h) (Or.inl ⟨by kernel_rfl, ?hy12⟩) (by assumption) ?_
   case hy12 => (intro wI hSw; (try dsimp only at hSw); obtain ⟨⟨a0, a1, a2, a3, a4, a5, a6, a7, a8, a9⟩, ⟨b0, b1, b2, b3, b4, b5, b6, b7, b8, b9⟩, t1, t2, -, -⟩ := HC.out _ hSw; go_simp; try with_reducible rfl)
   try simp only [Act.put, lqA, lqB, lqC, lqD, lqE, lqF]
   refine wpAnyG_take (i := 13) (v := ?_) rfl (by kernel_rfl) (by kernel_rfl) (by kernel_rfl) (by kernel_rfl) (fun _ _ _ h => h) (Or.inl ⟨by kernel_rfl, ?hy13⟩) (by assumption) ?_
   case hy13 => (intro wI hSw; (try dsimp only at hSw); obtain ⟨⟨a0, a1, a2, a3, a4, a5, a6, a7, a8, a9⟩, ⟨b0, b1, b2, b3, b4, b5, b6, b7, b8, b9⟩, t1, t2, -, -⟩ := HC.out _ hSw; go_simp; try with_reducible rfl)
   try simp only [Act.put, lqA, lqB, lqC, lqD, lqE, lqF]
   have hG := hHeld
   clear hHeld
   have hHeld : True := trivial
   refine wpAnyG_gateOp rfl (by kernel_rfl) (fun K hK => ?_)
   obtain ⟨⟨a0, a1, a2, a3, a4, a5, a6, a7, a8, a9⟩, ⟨b0, b1, b2, b3, b4, b5, b6, b7, b8, b9⟩, t1, t2, -, -⟩ := HC.out _ hG
   clear hG
   go_simp
   refine hK.out _ _ trivial (fun _ => ?_)
   clear hK K
   try simp only [Act.put, lqA, lqB, lqC, lqD, lqE, lqF]
   refine wpAnyH_take (i := 15) (v := ?_) rfl (by kernel_rfl) (by kernel_rfl) (by kernel_rfl) (fun _ _ _ h => h) (Or.inl ⟨by kernel_rfl, ?hy15⟩) (by assumption) ?_
   case hy15 => (intro wI hSw; (try dsimp only at hSw); go_simp; try with_reducible rfl)
   try simp only [Act.put, lqA, lqB, lqC, lqD, lqE, lqF]
   refine wpAnyH_take (i := 16) (v := ?_) rfl (by kernel_rfl) (by kernel_rfl) (by kernel_rfl) (fun _ _ _ h => h) (Or.inl ⟨by kernel_rfl, ?hy16⟩) (by assumption) ?_
   case hy16 => (intro wI hSw; (try dsimp only at hSw); go_simp; try with_reducible rfl)
   try simp only [Act.put, lqA, lqB, lqC, lqD, lqE, lqF]
   refine wpAnyH_ready (rs := [17]) (by kernel_rfl) (by simp) ?_
   refine AllReadyH.cons rfl (fun K hK => ?_) AllReadyH.nil
   go_simp
   refine hK.out _ _ trivial (fun _ => ?_)
   clear hK K
   try simp only [Act.put, lqA, lqB, lqC, lqD, lqE, lqF]
   refine wpAnyH_done (by kernel_rfl) ?_ _
   go_wp2_with fail
   go_meet
   exact ⟨r, HX.out⟩
  case rest =>
   obtain ⟨r, hR⟩ := hcut
   have hF1 : Fok mm (pab (st L id ⟨e.g, { e.s with ca := r, pe := sx0 }⟩)) := by rw [hR.ab]; exact HFK.out.cacs id
   have hsy : sy (pab (st L id ⟨e.g, { e.s with ca := r, pe := sx0 }⟩)) id = sy (pab L) id := by rw [hR.ab]; exact ((tre_upd _ id cacS (fun _ => ⟨rfl, rfl⟩)).sy id).symm
   have hE1 := HE.out.kb (hR.bel HP.out) hB
   have CSY := hid (fsynced_one hE1 hR.pf hF1.nok id hi)
   rw [hsy] at CSY
   clear HC HFIN HL1 HL2
   cases hsv : sy (pab L) id
   ·rw [hsv] at CSY
    have HCOM : Hid (comF 41 (pab L) id = ((kds 41 (upd (pab L) id comS) id []).1, [id] ++ (kds 41 (upd (pab L) id comS) id []).2)) := by
     rw [Hid, comF_eq, HS2.out]
     simp only [hsv]
     exact kds_acc 41 _ id [id] []
    obtain ⟨-, l2, l3⟩ := hF1.len hm hR.pf (HG1.out _)
    have HAP : Hid (∀ W, Below wc.heap.size wc W → Calls Tryz.prog 63 #[.pointer (some ⟨e.g, 0, none⟩)] W fun e' w' => e' = .returned undef ∧ ∃ L2 e2, PfR base w p m L (upd (pab L) id comS) w' L2 ∧ gt L2 id = some e2 ∧ e2.g = e.g) := fun W hW => by
     refine (fapply_any (hR.pf.on hW) (HG1.out _) l2 l3).mono fun e' w' ⟨h1, r2, _, hR2⟩ => ⟨h1, _, ⟨e.g, { { e.s with ca := r, pe := sx0 } with no := r2, ca := sx0 }⟩, (hR.trans ((PfR.refl hR.pf hW).trans hR2)).as ?_, ?_, rfl⟩
     ·rw [hR.ab, upd_upd]
      rfl
     ·rw [gt_st, if_pos rfl, HG1.out]
      rfl
    have HAB : Hid (∀ (W : World) L2 e2, PfR base w p m L (upd (pab L) id comS) W L2 → gt L2 id = some e2 → Calls Tryz.prog 64 #[.pointer (some ⟨p, 0, none⟩), .pointer (some ⟨e2.g, 0, none⟩)] (W.alloc (.cells #[.int .i64 id] 3)) fun e' w' => ∃ vl, e' = .returned vl ∧ (∃ a c, vl = .slice a (kds 41 (upd (pab L) id comS) id []).2.length c) ∧ Src Tryz.prog 1 63 vl (kds 41 (upd (pab L) id comS) id []).2.length (ic (kds 41 (upd (pab L) id comS) id []).2) w' ∧ (kds 41 (upd (pab L) id comS) id []).2.length ≤ 1000 ∧ w'.ownsRow w.heap.size 3 1 (.slice (some ⟨W.heap.size, 0, none⟩) 1 1) 1 (ic [id]) ∧ w.heap.size ≤ w'.heap.size ∧ ∀ w2 : World, w'.grownBy w2 (some W.heap.size) → ∃ L3, PfR base w p m L (kds 41 (upd (pab L) id comS) id []).1 w2 L3) := fun W L2 e2 hR2 hg2 => by
     have hb := bel_new W (.cells #[.int .i64 id] 3)
     have hF2 : Fok mm (pab L2) := by rw [hR2.ab, show upd (pab L) id comS = upd (upd (pab L) id cacS) id aplS by rw [upd_upd]; rfl]; exact (HFK.out.cacs id).apls id
     have h2 := hR2.pf.on hb
     have hE2 := (HE.out.kb (hR2.bel HP.out) hB).on hb
     have hab2 := hR2.ab
     refine (fapplybelow_any hm hE2 hB h2 hF2 hg2).mono fun e' w' ⟨L3, vl, h1, ho, hR3⟩ => ?_
     rw [hab2] at ho hR3
     obtain ⟨hn1, hn2⟩ := hR2.pf.newb (Nat.le_refl W.heap.size)
     have hws := hR2.kp.size
     have hkp := hR3.kp.size
     rw [size_new] at hkp
     have hbb : W.heap.size ∉ m :: wbs L2 := fun hm' => by
      rcases List.mem_cons.1 hm' with h3 | h3
      ·have := hR2.pf.lt.2
       omega
      ·exact hn1 h3
     have hB1 : Bk w' W.heap.size 3 #[.int .i64 id] := (bk_new W #[.int .i64 id] 3).kp hR3.kp hbb
     obtain ⟨l, hl1, hl2, hl3, hl4, hl5⟩ := own_sl (l := sg (kds 41 (upd (pab L) id comS) id []).2) (by rw [ic_mcs]; exact ho) (by rw [sg_length]) (sg_size _)
     have hsrc := hl4.src (P := Tryz.prog) (t := 63) (e := 3) Tryz.underlying63
     rw [hl3, ic_mcs, hl2] at hsrc
     have hlen : (kds 41 (upd (pab L) id comS) id []).2.length ≤ 1000 := by
      have hk := kds_length 41 (upd (pab L) id comS) id [] (by rw [← hab2]; exact hF2.inv) (by rw [← hab2]; exact hF2.nof) (by rw [← hab2, gt_pab, hg2]; rfl)
      have hd := dsc_le (upd (pab L) id comS) id
      have hl := hF2.inv.len
      rw [hab2] at hl
      simp only [List.length_nil] at hk
      omega
     refine ⟨vl, h1, ⟨l.a, l.c, by rw [hl1, Sl.v, hl2]⟩, by rw [hl1, Sl.v, hl2]; exact hsrc, hlen, ⟨by simp [ic], .inr ⟨W.heap.size, 1, #[.int .i64 id], rfl, hws, hB1.obj, by omega, by simp [maxLen], by simp, by simp [ic]⟩⟩, by omega, fun w2 hg => ⟨L3, ?_⟩⟩
     have hRR := hR2.trans ((PfR.refl hR2.pf hb).trans hR3)
     refine hRR.ext HP.out hws (fun hm' => ?_) (hR3.ofr _ (by rw [size_new]; omega) hn2) (kp_of_grown hg)
     rcases hR3.new _ hm' with h3 | h3
     ·exact hn1 h3
     ·rw [size_new] at h3
      omega
    obtain ⟨i0, hi', hz0, hz1, hz2⟩ := infoMP infoM1
    clear hR hF1 hsy hE1 l2 l3 hsv
    go_wp2_with fail
    refine CSY.out.mono ?_
    rintro e' w5 ⟨rfl, q5, hw5⟩
    have HB5 : Hid (Below wc.heap.size wc w5) := by rw [Hid, hw5]; exact below_drewN (Below.refl _ _) q5
    clear hw5 CSY
    go_wp2_with fail
    refine (HAP.out _ HB5.out).mono ?_
    rintro e' w6 ⟨rfl, L2, e2, hR2, hg2, hge⟩
    have HAB2 := hid (HAB.out w6 L2 e2 hR2 hg2)
    rw [hge] at HAB2
    clear HAP HAB hR2 hg2 hge HB5
    go_wp2_with fail
    refine HAB2.out.mono ?_
    rintro e' w7 ⟨vl, rfl, ⟨va, vc, rfl⟩, hsrc, hln, how, hsz, hfin⟩
    have HSRC := hid hsrc
    have HOW := hid how
    have HFN := hid hfin
    have HEND : Hid (∀ (v8 : Value) (w8 : World), w8.ownsRow w.heap.size 3 1 v8 (1 + (kds 41 (upd (pab L) id comS) id []).2.length) (ic [id] ++ ic (kds 41 (upd (pab L) id comS) id []).2) → w7.grownBy w8 (some w6.heap.size) → CoR base w p m L es id (.returned (.tuple #[v8, .nilIface])) w8) := fun v8 w8 o8 g8 => by
     obtain ⟨L3, hR3⟩ := HFN.out w8 g8
     refine ⟨L3, v8, by rw [HS1.out]; rfl, ?_, hR3.as (by rw [HCOM.out])⟩
     rw [HCOM.out]
     show w8.ownsRow _ _ _ v8 ([id] ++ _).length (ic ([id] ++ _))
     rw [ic_append, List.length_append]
     exact o8
    clear hsrc how hfin HAB2 HFN HCOM
    generalize (kds 41 (upd (pab L) id comS) id []).2.length = kl at *
    go_wp2_with (at_builtin; refine wpList_append_own_at _ rfl (.tmp 39) (.tmp 42) 63 63 rfl w.heap.size 3 i0 (.int .i64 0) 1 8 Tryz.underlying63 hi' hz0 hz1 hz2 rfl _ _ _ rfl HOW.out _ _ _ rfl HSRC.out (by simp only [maxLen]; omega) (fitsM (by omega) (by decide)) hsz ?_; intro v8 w8 o8 g8 a8; have HX := hid (HEND.out v8 w8 o8 g8); clear o8 g8 a8)
    go_ret2
    exact HX.out
   ·rw [hsv] at CSY
    have HX : Hid (∀ q, CoR base w p m L es id (.returned (.tuple #[.slice none 0 0, .nilIface])) (wc.drewN q)) := fun q => ⟨_, .slice none 0 0, by rw [HS1.out]; rfl, by rw [comF_eq, HS2.out]; simp only [hsv]; exact World.ownsRow_nil _ _ _ _, (hR.trans (PfR.refl hR.pf (below_drewN (Below.refl _ _) q))).as (by rw [comF_eq, HS2.out]; simp only [hsv]; exact hR.ab)⟩
    clear hR hF1 hsy hE1 hsv
    go_wp2_with fail
    refine CSY.out.mono ?_
    rintro e' w5 ⟨rfl, q5, rfl⟩
    have HY := hid (HX.out q5)
    go_wp2
    go_ret2
    exact HY.out
end
section
variable {base B : Nat} {w u w' : World} {p m : Nat} {L L' : Po} {F : Fo} {id : Int} {es : List Addr} {e : Ps}
theorem mrg_sq0 (q : Sq) : mrg q sq0 = q := by
 cases q
 simp [mrg, sq0, puts]
def sho (x : Sr → Sx) (L : Po) (id : Int) : Sq := match gt L id with
 | none => sq0
 | some e => (x e.s).q
theorem fshow_any (hE : Fe w es) (h : Pf base w p m L) (id : Int) (hi : Bt id) (x : Sr → Sx) (g : Nat) (eg : ∀ args w, (callFunc g args).run Tryz.prog w = .ok (.enter g args) w) (hok : ∀ e, gt L id = some e → (x e.s).Ok w ∧ (x e.s).Len 1000)
  (hg : ∀ e, gt L id = some e → ∀ W, Below w.heap.size w W → Calls Tryz.prog g (#[.pointer (some ⟨e.g, 0, none⟩)] ++ #[]) W fun e' w' => e' = .returned (.agg #[.bool (x e.s).at_, .int .i64 (x e.s).buf, .slice (x e.s).dm.a (x e.s).dm.n (x e.s).dm.c, .slice (x e.s).fr.a (x e.s).fr.n (x e.s).fr.c, .bool (x e.s).inp, .bool (x e.s).all, .slice (x e.s).rg.a (x e.s).rg.n (x e.s).rg.c, .bool (x e.s).ord, .slice (x e.s).od.a (x e.s).od.n (x e.s).od.c, .slice (x e.s).pl.a (x e.s).pl.n (x e.s).pl.c]) ∧ Below W.heap.size W w') :
  Calls Tryz.prog 68 #[.pointer (some ⟨p, 0, none⟩), .int .i64 id, .func (.func g) #[] #[]] w (Rst w (sho x L id)) := by
 have hb0 := bel_new w (.cells #[.bool sx0.at_, .int .i64 sx0.buf, .slice sx0.dm.a sx0.dm.n sx0.dm.c, .slice sx0.fr.a sx0.fr.n sx0.fr.c, .bool sx0.inp, .bool sx0.all, .slice sx0.rg.a sx0.rg.n sx0.rg.c, .bool sx0.ord, .slice sx0.od.a sx0.od.n sx0.od.c, .slice sx0.pl.a sx0.pl.n sx0.pl.c] 72)
 have hz := bs_new w sx0
 have HF := hid (ffind_any (hE.on hb0) (h.on hb0) id hi)
 have HZ := hid hz
 have HB := hid hb0
 cases hq : gt L id with
 | none =>
  have HS : Hid (pto L id = none ∧ hasE (pab L) id = 5) := ⟨by rw [pto, hq]; rfl, by rw [hasE, gt_pab, hq]; rfl⟩
  have HV : Hid (sho x L id = sq0) := by rw [Hid, sho, hq]
  rw [HS.out.1, HS.out.2] at HF
  rw [HV.out]
  clear hq h hE HS hok hg hb0 hz HV
  go_enter Tryz.func68, Tryz.ntmps68
  go_wp2_with fail
  refine HF.out.mono ?_
  rintro e' w1 ⟨rfl, q1, hw1⟩
  have hb1 : Below w.heap.size w w1 := by rw [hw1]; exact below_drewN HB.out q1
  have HZ1 : Hid (Bs w1 w.heap.size sx0) := by rw [Hid, hw1]; exact HZ.out.on (below_drewN (Below.refl _ _) q1)
  have HB1 := hid hb1
  have hlt := HZ1.out.lt
  obtain ⟨ra, rb, rc, rd, re, rf, rg, rh, ri, rj⟩ := HZ1.out.all
  have fz := HZ1.out.fz
  rw [ptv_none, erv_succ]
  clear hw1 hb1 HF HZ HB
  simp only [sx0, sl0] at ra rb rc rd re rf rg rh ri rj
  go_wp2
  refine bodyPost_ret (results_cell_row rfl _ _ w.heap.size _ _ _ _ rfl (HZ1.out.stz sx0).bk.obj Tryz.underlying72 rfl infoSt) rfl ?_
  exact ⟨sx0, rfl, sx0_ok _, ⟨(fun y e => by cases e), (fun y e => by cases e), (fun y e => by cases e), (fun y e => by cases e), (fun y e => by cases e)⟩, rfl, below_stz HB1.out (Nat.le_refl _) sx0⟩
 | some e =>
  have HS : Hid (pto L id = some e.g ∧ hasE (pab L) id = 0) := ⟨by rw [pto, hq]; rfl, by rw [hasE, gt_pab, hq]; rfl⟩
  have HV : Hid (sho x L id = (x e.s).q) := by rw [Hid, sho, hq]
  have HG := hid (hg e hq)
  obtain ⟨ok1, l1⟩ := hok e hq
  have HOK := hid ok1
  have HL := hid l1
  rw [HS.out.1, HS.out.2] at HF
  rw [HV.out]
  generalize x e.s = y at *
  clear hq h hE HS hok hg hb0 hz HV ok1 l1
  go_enter Tryz.func68, Tryz.ntmps68
  go_wp2_with fail
  refine HF.out.mono ?_
  rintro e' w1 ⟨rfl, q1, hw1⟩
  have hb1 : Below w.heap.size w w1 := by rw [hw1]; exact below_drewN HB.out q1
  have HZ1 : Hid (Bs w1 w.heap.size sx0) := by rw [Hid, hw1]; exact HZ.out.on (below_drewN (Below.refl _ _) q1)
  have HB1 := hid hb1
  rw [ptv_some, erv0]
  clear hw1 hb1 HF HZ HB
  go_wp2_with fail
  refine (HG.out _ HB1.out).mono ?_
  rintro e' w2 ⟨rfl, hb2⟩
  have HB2 := hid (Below.on HB1.out hb2)
  have HZ2 := hid (HZ1.out.on hb2)
  have CM := hid (merge_any y sx0 w2 (HOK.out.on HB2.out) (sx0_ok w2) HL.out ⟨by simp [sx0, sl0], by simp [sx0, sl0], by simp [sx0, sl0], by simp [sx0, sl0], by simp [sx0, sl0]⟩)
  simp only [sx0_q, mrg_sq0] at CM
  clear hb2 HG HB1 HZ1
  go_wp2_with fail
  refine CM.out.mono ?_
  rintro e' w3 ⟨r, rfl, okr, nwr, hqr, hbr⟩
  have HZ3 := hid (HZ2.out.on hbr)
  have hlt := HZ3.out.lt
  obtain ⟨ra, rb, rc, rd, re, rf, rg, rh, ri, rj⟩ := HZ3.out.all
  have fz := HZ3.out.fz
  have hw2 : w.heap.size < w2.heap.size := HZ2.out.lt
  have HX : Hid (r.Ok (stz w3 w.heap.size r) ∧ r.New w.heap.size ∧ r.q = y.q ∧ Below w.heap.size w (stz w3 w.heap.size r)) := ⟨okr.stz nwr hw2 r, nwr.low (Nat.le_of_lt hw2), hqr, below_stz (Below.on HB2.out hbr) (Nat.le_refl _) r⟩
  clear okr nwr hqr hbr CM HZ2 HB2 hw2
  simp only [sx0, sl0] at ra rb rc rd re rf rg rh ri rj
  go_wp2
  refine bodyPost_ret (results_cell_row rfl _ _ w.heap.size _ _ _ _ rfl (HZ3.out.stz r).bk.obj Tryz.underlying72 rfl infoSt) rfl ?_
  exact ⟨r, rfl, HX.out⟩
theorem fcurrent1_any (h : Pf base w p m L) (he : gt L id = some e) (u : World) (hu : Below w.heap.size w u) :
  Calls Tryz.prog 69 (#[.pointer (some ⟨e.g, 0, none⟩)] ++ #[]) u fun e' w' => e' = .returned (.agg #[.bool e.s.no.at_, .int .i64 e.s.no.buf, .slice e.s.no.dm.a e.s.no.dm.n e.s.no.dm.c, .slice e.s.no.fr.a e.s.no.fr.n e.s.no.fr.c, .bool e.s.no.inp, .bool e.s.no.all, .slice e.s.no.rg.a e.s.no.rg.n e.s.no.rg.c, .bool e.s.no.ord, .slice e.s.no.od.a e.s.no.od.n e.s.no.od.c, .slice e.s.no.pl.a e.s.no.pl.n e.s.no.pl.c]) ∧ Below u.heap.size u w' := by
 have hb0 := bel_new u (.cells #[.bool sx0.at_, .int .i64 sx0.buf, .slice sx0.dm.a sx0.dm.n sx0.dm.c, .slice sx0.fr.a sx0.fr.n sx0.fr.c, .bool sx0.inp, .bool sx0.all, .slice sx0.rg.a sx0.rg.n sx0.rg.c, .bool sx0.ord, .slice sx0.od.a sx0.od.n sx0.od.c, .slice sx0.pl.a sx0.pl.n sx0.pl.c] 72)
 have h1 := (h.on hu).on hb0
 have HZ := hid (bs_new u sx0)
 have HB := hid hb0
 obtain ⟨c0, c1, c2, c3, c4, c5, c6, c7, c8, c9⟩ := (h1.cells he).2.2
 have l1 := (h1.wlt he (mem_wb.2 (.inl rfl))).2
 obtain ⟨ra, rb, rc, rd, re, rf, rg, rh, ri, rj⟩ := HZ.out.all
 have fz := HZ.out.fz
 have hlt := HZ.out.lt
 clear h he hu hb0 h1
 simp only [sx0, sl0] at ra rb rc rd re rf rg rh ri rj c0 c1 c2 c3 c4 c5 c6 c7 c8 c9 fz hlt l1
 go_enter Tryz.func69, Tryz.ntmps69
 go_wp2
 refine bodyPost_ret (results_cell_row rfl _ _ u.heap.size _ _ _ _ rfl (bs_new u e.s.no).bk.obj Tryz.underlying72 rfl infoSt) rfl ?_
 exact ⟨rfl, bel_new u _⟩
theorem fcurrent_any {mm : Nat} (hm : mm ≤ 900) (hE : Fe w es) (h : Pf base w p m L) (hF : Fok mm (pab L)) (id : Int) (hi : Bt id) :
  Calls Tryz.prog 23 #[.pointer (some ⟨p, 0, none⟩), .int .i64 id] w (Rst w (sho Sr.no L id)) := by
 have hb0 := bel_new w (.cells #[.bool sx0.at_, .int .i64 sx0.buf, .slice sx0.dm.a sx0.dm.n sx0.dm.c, .slice sx0.fr.a sx0.fr.n sx0.fr.c, .bool sx0.inp, .bool sx0.all, .slice sx0.rg.a sx0.rg.n sx0.rg.c, .bool sx0.ord, .slice sx0.od.a sx0.od.n sx0.od.c, .slice sx0.pl.a sx0.pl.n sx0.pl.c] 72)
 have CS := hid (fshow_any (hE.on hb0) (h.on hb0) id hi Sr.no 69 (enters_of Tryz.func69 (by kernel_rfl) rfl) (fun e he => ⟨((h.on hb0).rows id e he).ok.no, (hF.len hm h he).2.2⟩) (fun e he W hW => fcurrent1_any (h.on hb0) he W hW))
 have HZ := hid (bs_new w sx0)
 have HB := hid hb0
 clear hE h hF hb0
 go_enter Tryz.func23, Tryz.ntmps23
 go_wp2_with fail
 refine CS.out.mono ?_
 rintro e' w3 ⟨r, rfl, okr, nwr, hqr, hbr⟩
 have HZ3 := hid (HZ.out.on hbr)
 have hlt := HZ3.out.lt
 obtain ⟨ra, rb, rc, rd, re, rf, rg, rh, ri, rj⟩ := HZ3.out.all
 have fz := HZ3.out.fz
 rw [size_new] at nwr
 have HX : Hid (r.Ok (stz w3 w.heap.size r) ∧ r.New w.heap.size ∧ r.q = sho Sr.no L id ∧ Below w.heap.size w (stz w3 w.heap.size r)) := ⟨okr.stz nwr (by omega) r, nwr.low (by omega), hqr, below_stz (Below.on HB.out hbr) (Nat.le_refl _) r⟩
 clear okr nwr hqr hbr CS HZ HB
 simp only [sx0, sl0] at ra rb rc rd re rf rg rh ri rj
 go_wp2
 refine bodyPost_ret (results_cell_row rfl _ _ w.heap.size _ _ _ _ rfl (HZ3.out.stz r).bk.obj Tryz.underlying72 rfl infoSt) rfl ?_
 exact ⟨r, rfl, HX.out⟩
theorem ftake_any (hE : Fe w es) (h : Pf base w p m L) (id : Int) (hi : Bt id) :
  Calls Tryz.prog 53 #[.pointer (some ⟨p, 0, none⟩), .int .i64 id] w fun e' w' => ∃ l : Sl, e' = .returned (.slice l.a l.n l.c) ∧ l.l = takL (pab L) id ∧ RdM 1 w' l.a l.n l.c l.l ∧ ∃ L', PfR base w p m L (upd (pab L) id takS) w' L' := by
 have HF := hid (ffind_any hE h id hi)
 cases hq : gt L id with
 | none =>
  have HS : Hid (pto L id = none ∧ hasE (pab L) id = 5) := ⟨by rw [pto, hq]; rfl, by rw [hasE, gt_pab, hq]; rfl⟩
  have HX : Hid (∀ q, ∃ l : Sl, Ending.returned (.slice none 0 0) = .returned (.slice l.a l.n l.c) ∧ l.l = takL (pab L) id ∧ RdM 1 (w.drewN q) l.a l.n l.c l.l ∧ ∃ L', PfR base w p m L (upd (pab L) id takS) (w.drewN q) L') := fun q => ⟨sl0, rfl, by rw [takL, gt_pab, hq]; rfl, RdM.nil _ _, L, (PfR.refl h (below_drewN (Below.refl _ _) q)).as (by rw [upd, gt_pab, hq]; rfl)⟩
  rw [HS.out.1, HS.out.2] at HF
  clear hq h hE HS
  go_enter Tryz.func53, Tryz.ntmps53
  go_wp2_with fail
  refine HF.out.mono ?_
  rintro e' w1 ⟨rfl, q1, rfl⟩
  have HY := hid (HX.out q1)
  rw [ptv_none, erv_succ]
  go_wp2
  go_ret
  exact HY.out
 | some e =>
  have HS : Hid (pto L id = some e.g ∧ hasE (pab L) id = 0) := ⟨by rw [pto, hq]; rfl, by rw [hasE, gt_pab, hq]; rfl⟩
  have HX : Hid (∀ q, ∃ l : Sl, Ending.returned (.slice e.s.no.fr.a e.s.no.fr.n e.s.no.fr.c) = .returned (.slice l.a l.n l.c) ∧ l.l = takL (pab L) id ∧ RdM 1 ((w.drewN q).setCell ⟨e.g, 23, none⟩ (.slice none 0 0)) l.a l.n l.c l.l ∧ ∃ L', PfR base w p m L (upd (pab L) id takS) ((w.drewN q).setCell ⟨e.g, 23, none⟩ (.slice none 0 0)) L') := fun q => ⟨e.s.no.fr, rfl, by rw [takL, gt_pab, hq]; rfl, by
   have h1 := ((h.drewN q).rows id e hq).ok.no.fr
   exact rd_far h1 (kp1 _ _ _ _) (fun b hb => by
    simp only [List.mem_cons, List.not_mem_nil, or_false] at hb
    rw [hb]
    exact ((h.sep id e hq).2 e.g (mem_wb.2 (.inl rfl))).2.2.2 _ (by simp [ros])), _, h.putTak hq (below_drewN (Below.refl _ _) q)⟩
  have c1 : w.cell? ⟨e.g, 23, none⟩ = some (.slice e.s.no.fr.a e.s.no.fr.n e.s.no.fr.c) := h.cell hq
  have f1 := h.fz hq
  have hlt := (h.wlt hq (mem_wb.2 (.inl rfl))).2
  rw [HS.out.1, HS.out.2] at HF
  clear hq h hE HS
  go_enter Tryz.func53, Tryz.ntmps53
  go_wp2_with fail
  refine HF.out.mono ?_
  rintro e' w1 ⟨rfl, q1, rfl⟩
  have HY := hid (HX.out q1)
  rw [ptv_some, erv0]
  go_wp2
  go_ret
  exact HY.out
end
end Go.Proofs.YtkjempffidndeaaGreatDoor
