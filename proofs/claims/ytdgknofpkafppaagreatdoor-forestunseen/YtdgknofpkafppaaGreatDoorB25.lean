/- Lemmas that the proof leans on. -/
import Derived.Test.YtdgknofpkafppaaGreatDoorB24
namespace Go.Proofs.YtdgknofpkafppaaGreatDoor
open Go Go.RowKit
open List renaming getElem_toArray → lqA, getElem_cons_zero → lqB, getElem_cons_succ → lqC, setIfInBounds_toArray → lqD, set_cons_zero → lqE, set_cons_succ → lqF
set_option maxRecDepth 100000
set_option maxHeartbeats 4000000
section
variable {base B : Nat} {w u w' : World} {p m : Nat} {L L' : Po} {F : Fo} {id : Int} {es : List Addr} {e : Ps}
theorem Fok.cacs {mm : Nat} (h : Fok mm F) (id : Int) : Fok mm (upd F id cacS) := ⟨h.inv.cacs id, h.nof.turn _ _ fun _ _ hs => hs.cacs, h.szf.turn (Nat.le_refl mm) _ _ fun _ hs => hs.cacs, h.bof.turn _ _ fun _ hs => hs.cacs⟩
theorem Fok.apls {mm : Nat} (h : Fok mm F) (id : Int) : Fok mm (upd F id aplS) := ⟨h.inv.apls id, h.nof.turn _ _ fun _ _ hs => hs.apls, h.szf.turn (Nat.le_refl mm) _ _ fun _ hs => hs.apls, h.bof.turn _ _ fun _ hs => hs.apls⟩
theorem ic_mcs (l : List Int) : mcs (sg l) = ic l := by
 induction l with
 | nil => rfl
 | cons z l ih =>
  rw [sg, List.map_cons, mcs_cons]
  rw [sg] at ih
  rw [ih]
  rfl
theorem PfR.ext (h : PfR base w p m L F w' L') (h0 : Pf base w p m L) {b : Nat} (hb : w.heap.size ≤ b) (hn : b ∉ wbs L') (ho : Ofr L' b) {w2 : World} (hk : Kp [b] w' w2) : PfR base w p m L F w2 L' := by
 obtain ⟨l1, l2⟩ := h0.lt
 refine ⟨h.pf.kept hk (by simp only [List.mem_cons, List.not_mem_nil, or_false]; omega) (by simp only [List.mem_cons, List.not_mem_nil, or_false]; omega) (fun x e he => ⟨fun c hc hm => ?_, fun z hz c hc => ?_⟩), h.ab, h.kp.trans hk (fun c hc hlt => by simp only [List.mem_cons, List.not_mem_nil, or_false] at hc; omega), h.new, h.ofr⟩
 ·simp only [List.mem_cons, List.not_mem_nil, or_false] at hm
  rw [hm] at hc
  exact hn ((mem_wbs h.pf.nd).2 ⟨x, e, he, hc⟩)
 ·simp only [List.mem_cons, List.not_mem_nil, or_false] at hc
  rw [hc]
  exact ho x e he z hz
theorem Pf.newb (h : Pf base w p m L) {b : Nat} (hb : w.heap.size ≤ b) : b ∉ wbs L ∧ Ofr L b := by
 refine ⟨fun hm => ?_, fun x e he z hz => (h.rows x e he).ros hz hb⟩
 obtain ⟨x, e, he, hb2⟩ := (mem_wbs h.nd).1 hm
 have := (h.wlt he hb2).2
 omega
def CoR (base : Nat) (w : World) (p m : Nat) (L : Po) (es : List Addr) (id : Int) (e' : Ending) (w' : World) : Prop := ∃ L' vl, e' = .returned (.tuple #[vl, erv es (hasE (pab L) id)]) ∧ w'.ownsRow w.heap.size 3 1 vl (comF 41 (pab L) id).2.length (ic (comF 41 (pab L) id).2) ∧ PfR base w p m L (comF 41 (pab L) id).1 w' L'
theorem fcommit_any {mm : Nat} (hm : mm ≤ 900) (hE : Fe w es) (hB : 16 ≤ base) (h : Pf base w p m L) (hF : Fok mm (pab L)) (id : Int) (hi : Bt id) :
  Calls Tryz.prog 25 #[.pointer (some ⟨p, 0, none⟩), .int .i64 id] w (CoR base w p m L es id) := by
 have HF := hid (ffind_any hE h id hi)
 cases hq : gt L id with
 | none =>
  have hs : gt (pab L) id = none := by rw [gt_pab, hq]; rfl
  have HS : Hid (pto L id = none ∧ hasE (pab L) id = 5) := ⟨by rw [pto, hq]; rfl, by rw [hasE, hs]⟩
  have HX : Hid (∀ q, CoR base w p m L es id (.returned (.tuple #[.slice none 0 0, erv es 5])) (w.drewN q)) := fun q => ⟨L, .slice none 0 0, by rw [HS.out.2], by rw [comF_eq, hs]; exact World.ownsRow_nil _ _ _ _, (PfR.refl h (below_drewN (Below.refl _ _) q)).as (by rw [comF_eq, hs])⟩
  rw [HS.out.1, HS.out.2] at HF
  clear hq h hE HS hF hs
  go_enter Tryz.func25, Tryz.ntmps25
  go_wp2_with fail
  refine HF.out.mono ?_
  rintro e' w1 ⟨rfl, q1, rfl⟩
  rw [ptv_none]
  have HY := hid (HX.out q1)
  rw [erv_succ] at HY ⊢
  go_wp2
  go_ret2
  exact HY.out
 | some e =>
  have hs : gt (pab L) id = some e.s.f := by rw [gt_pab, hq]; rfl
  have HS : Hid (pto L id = some e.g ∧ hasE (pab L) id = 0) := ⟨by rw [pto, hq]; rfl, by rw [hasE, hs]⟩
  rw [HS.out.1, HS.out.2] at HF
  have HC : Hid (∀ W : World, Below w.heap.size w W → (W.cell? ⟨e.g, 0, none⟩ = some (.bool e.s.pe.at_) ∧ W.cell? ⟨e.g, 1, none⟩ = some (.int .i64 e.s.pe.buf) ∧ W.cell? ⟨e.g, 2, none⟩ = some (.slice e.s.pe.dm.a e.s.pe.dm.n e.s.pe.dm.c) ∧ W.cell? ⟨e.g, 3, none⟩ = some (.slice e.s.pe.fr.a e.s.pe.fr.n e.s.pe.fr.c) ∧ W.cell? ⟨e.g, 4, none⟩ = some (.bool e.s.pe.inp) ∧ W.cell? ⟨e.g, 5, none⟩ = some (.bool e.s.pe.all) ∧ W.cell? ⟨e.g, 6, none⟩ = some (.slice e.s.pe.rg.a e.s.pe.rg.n e.s.pe.rg.c) ∧ W.cell? ⟨e.g, 7, none⟩ = some (.bool e.s.pe.ord) ∧ W.cell? ⟨e.g, 8, none⟩ = some (.slice e.s.pe.od.a e.s.pe.od.n e.s.pe.od.c) ∧ W.cell? ⟨e.g, 9, none⟩ = some (.slice e.s.pe.pl.a e.s.pe.pl.n e.s.pe.pl.c)) ∧ (W.cell? ⟨e.g, 10, none⟩ = some (.bool e.s.ca.at_) ∧ W.cell? ⟨e.g, 11, none⟩ = some (.int .i64 e.s.ca.buf) ∧ W.cell? ⟨e.g, 12, none⟩ = some (.slice e.s.ca.dm.a e.s.ca.dm.n e.s.ca.dm.c) ∧ W.cell? ⟨e.g, 13, none⟩ = some (.slice e.s.ca.fr.a e.s.ca.fr.n e.s.ca.fr.c) ∧ W.cell? ⟨e.g, 14, none⟩ = some (.bool e.s.ca.inp) ∧ W.cell? ⟨e.g, 15, none⟩ = some (.bool e.s.ca.all) ∧ W.cell? ⟨e.g, 16, none⟩ = some (.slice e.s.ca.rg.a e.s.ca.rg.n e.s.ca.rg.c) ∧ W.cell? ⟨e.g, 17, none⟩ = some (.bool e.s.ca.ord) ∧ W.cell? ⟨e.g, 18, none⟩ = some (.slice e.s.ca.od.a e.s.ca.od.n e.s.ca.od.c) ∧ W.cell? ⟨e.g, 19, none⟩ = some (.slice e.s.ca.pl.a e.s.ca.pl.n e.s.ca.pl.c)) ∧ e.g < W.heap.size ∧ (∀ j, W.frozen? ⟨e.g, j, none⟩ = false) ∧ e.s.ca.Ok W ∧ e.s.pe.Ok W) := fun W hW => by
   have h1 := h.on hW
   exact ⟨(h1.cells hq).1, (h1.cells hq).2.1, (h1.wlt hq (mem_wb.2 (.inl rfl))).2, h1.fz hq, (h1.rows id e hq).ok.ca, (h1.rows id e hq).ok.pe⟩
  have HFIN : Hid (∀ (W W1 : World) (r : Sx), Below w.heap.size w W → Below W.heap.size W W1 → r.Ok W1 → r.New W.heap.size → r.q = mrg e.s.ca.q e.s.pe.q → W1.ownsRow W.heap.size 82 3 (.slice r.pl.a r.pl.n r.pl.c) r.pl.n (mcs r.pl.l) → r.Plf → PfR base w p m L (upd (pab L) id cacS) (sto (sto W1 e.g 10 r) e.g 0 sx0) (st L id ⟨e.g, { e.s with ca := r, pe := sx0 }⟩)) := fun W W1 r hb hb1 ok nw hq' ho hp => h.com1 hq hb hb1 ok nw hq' ho hp
  obtain ⟨l1, l2, l3⟩ := hF.len hm h hq
  have HL1 := hid l1
  have HL2 := hid l2
  have HG1 : Hid (∀ s', gt (st L id ⟨e.g, s'⟩) id = some ⟨e.g, s'⟩) := fun s' => by rw [gt_st, if_pos rfl, hq]; rfl
  have HFK := hid hF
  have HP := hid h
  have HE := hid hE
  have HS2 := hid hs
  have HS1 := hid HS.out.2
  clear hq h hE HS hF hs l1 l2 l3
  go_enter Tryz.func25, Tryz.ntmps25
  go_wp2_with fail
  refine HF.out.mono ?_
  rintro e' w1 ⟨rfl, q1, hw1⟩
  have HB1 : Hid (Below w.heap.size w w1) := by rw [Hid, hw1]; exact below_drewN (Below.refl _ _) q1
  clear hw1 HF
  rw [ptv_some, erv0]
  go_upto_region 4 with fail
  go_cut [] (fun wc => ∃ r, PfR base w p m L (upd (pab L) id cacS) wc (st L id ⟨e.g, { e.s with ca := r, pe := sx0 }⟩))
  case first =>
   refine wp_region_gate_drew (g := 14) (S := RowKit.Below w.heap.size w) (by kernel_rfl) ?hh (fun hHeld => ?_)
   case hh => exact (Below.on HB1.out (Below.refl _ _).drew)
   generalize w1.drew = W0 at hHeld ⊢
   try dsimp only at hHeld
   refine wpAnyG_take (i := 0) (v := ?_) rfl (by kernel_rfl) (by kernel_rfl) (by kernel_rfl) (by kernel_rfl) (fun _ _ _ h => h) (Or.inl ⟨by kernel_rfl, ?hy0⟩) (by assumption) ?_
   case hy0 => (intro wI hSw; (try dsimp only at hSw); obtain ⟨⟨a0, a1, a2, a3, a4, a5, a6, a7, a8, a9⟩, ⟨b0, b1, b2, b3, b4, b5, b6, b7, b8, b9⟩, t1, t2, -, -⟩ := HC.out _ hSw; go_simp; try with_reducible rfl)
   try simp only [Act.put, lqA, lqB, lqD, lqE, lqF]
   refine wpAnyG_takeFree (i := 1) (v := ?_) rfl (by kernel_rfl) (by kernel_rfl) (by kernel_rfl) (by kernel_rfl) (fun _ _ _ h => h) (Or.inl ⟨by kernel_rfl, ?hy1⟩) (by assumption) ?_
   case hy1 => (intro wI _; go_simp; try with_reducible rfl)
   try simp only [Act.put, lqA, lqB, lqC, lqD, lqE, lqF]
   refine wpAnyG_take (i := 2) (v := ?_) rfl (by kernel_rfl) (by kernel_rfl) (by kernel_rfl) (by kernel_rfl) (fun _ _ _ h => h) (Or.inl ⟨by kernel_rfl, ?hy2⟩) (by assumption) ?_
   case hy2 => (intro wI hSw; (try dsimp only at hSw); obtain ⟨⟨a0, a1, a2, a3, a4, a5, a6, a7, a8, a9⟩, ⟨b0, b1, b2, b3, b4, b5, b6, b7, b8, b9⟩, t1, t2, -, -⟩ := HC.out _ hSw; go_simp; try with_reducible rfl)
   try simp only [Act.put, lqA, lqB, lqC, lqD, lqE, lqF]
   refine wpAnyG_take (i := 3) (v := ?_) rfl (by kernel_rfl) (by kernel_rfl) (by kernel_rfl) (by kernel_rfl) (fun _ _ _ h => h) (Or.inl ⟨by kernel_rfl, ?hy3⟩) (by assumption) ?_
   case hy3 => (intro wI hSw; (try dsimp only at hSw); obtain ⟨⟨a0, a1, a2, a3, a4, a5, a6, a7, a8, a9⟩, ⟨b0, b1, b2, b3, b4, b5, b6, b7, b8, b9⟩, t1, t2, -, -⟩ := HC.out _ hSw; go_simp; try with_reducible rfl)
   try simp only [Act.put, lqA, lqB, lqC, lqD, lqE, lqF]
   refine wpAnyG_take (i := 4) (v := ?_) rfl (by kernel_rfl) (by kernel_rfl) (by kernel_rfl) (by kernel_rfl) (fun _ _ _ h => h) (Or.inl ⟨by kernel_rfl, ?hy4⟩) (by assumption) ?_
   case hy4 => (intro wI hSw; (try dsimp only at hSw); obtain ⟨⟨a0, a1, a2, a3, a4, a5, a6, a7, a8, a9⟩, ⟨b0, b1, b2, b3, b4, b5, b6, b7, b8, b9⟩, t1, t2, -, -⟩ := HC.out _ hSw; go_simp; try with_reducible rfl)
   try simp only [Act.put, lqA, lqB, lqC, lqD, lqE, lqF]
   refine wpAnyG_take (i := 5) (v := ?_) rfl (by kernel_rfl) (by kernel_rfl) (by kernel_rfl) (by kernel_rfl) (fun _ _ _ h => h) (Or.inl ⟨by kernel_rfl, ?hy5⟩) (by assumption) ?_
   case hy5 => (intro wI hSw; (try dsimp only at hSw); obtain ⟨⟨a0, a1, a2, a3, a4, a5, a6, a7, a8, a9⟩, ⟨b0, b1, b2, b3, b4, b5, b6, b7, b8, b9⟩, t1, t2, -, -⟩ := HC.out _ hSw; go_simp; try with_reducible rfl)
   try simp only [Act.put, lqA, lqB, lqC, lqD, lqE, lqF]
   refine wpAnyG_take (i := 6) (v := ?_) rfl (by kernel_rfl) (by kernel_rfl) (by kernel_rfl) (by kernel_rfl) (fun _ _ _ h => h) (Or.inl ⟨by kernel_rfl, ?hy6⟩) (by assumption) ?_
   case hy6 => (intro wI hSw; (try dsimp only at hSw); obtain ⟨⟨a0, a1, a2, a3, a4, a5, a6, a7, a8, a9⟩, ⟨b0, b1, b2, b3, b4, b5, b6, b7, b8, b9⟩, t1, t2, -, -⟩ := HC.out _ hSw; go_simp; try with_reducible rfl)
   try simp only [Act.put, lqA, lqB, lqC, lqD, lqE, lqF]
   refine wpAnyG_take (i := 7) (v := ?_) rfl (by kernel_rfl) (by kernel_rfl) (by kernel_rfl) (by kernel_rfl) (fun _ _ _ h => h) (Or.inl ⟨by kernel_rfl, ?hy7⟩) (by assumption) ?_
   case hy7 => (intro wI hSw; (try dsimp only at hSw); obtain ⟨⟨a0, a1, a2, a3, a4, a5, a6, a7, a8, a9⟩, ⟨b0, b1, b2, b3, b4, b5, b6, b7, b8, b9⟩, t1, t2, -, -⟩ := HC.out _ hSw; go_simp; try with_reducible rfl)
   try simp only [Act.put, lqA, lqB, lqC, lqD, lqE, lqF]
   refine wpAnyG_take (i := 8) (v := ?_) rfl (by kernel_rfl) (by kernel_rfl) (by kernel_rfl) (by kernel_rfl) (fun _ _ _ h => h) (Or.inl ⟨by kernel_rfl, ?hy8⟩) (by assumption) ?_
   case hy8 => (intro wI hSw; (try dsimp only at hSw); obtain ⟨⟨a0, a1, a2, a3, a4, a5, a6, a7, a8, a9⟩, ⟨b0, b1, b2, b3, b4, b5, b6, b7, b8, b9⟩, t1, t2, -, -⟩ := HC.out _ hSw; go_simp; try with_reducible rfl)
   try simp only [Act.put, lqA, lqB, lqC, lqD, lqE, lqF]
   refine wpAnyG_take (i := 9) (v := ?_) rfl (by kernel_rfl) (by kernel_rfl) (by kernel_rfl) (by kernel_rfl) (fun _ _ _ h => h) (Or.inl ⟨by kernel_rfl, ?hy9⟩) (by assumption) ?_
   case hy9 => (intro wI hSw; (try dsimp only at hSw); obtain ⟨⟨a0, a1, a2, a3, a4, a5, a6, a7, a8, a9⟩, ⟨b0, b1, b2, b3, b4, b5, b6, b7, b8, b9⟩, t1, t2, -, -⟩ := HC.out _ hSw; go_simp; try with_reducible rfl)
   try simp only [Act.put, lqA, lqB, lqC, lqD, lqE, lqF]
   refine wpAnyG_takeFree (i := 11) (v := ?_) rfl (by kernel_rfl) (by kernel_rfl) (by kernel_rfl) (by kernel_rfl) (fun _ _ _ h => h) (Or.inl ⟨by kernel_rfl, ?hy11⟩) (by assumption) ?_
   case hy11 => (intro wI _; go_simp; try with_reducible rfl)
   try simp only [Act.put, lqA, lqB, lqC, lqD, lqE, lqF]
   refine wpAnyG_ready (rs := [10]) (by kernel_rfl) (by simp) ?_
   refine AllReadyG.cons rfl (fun K hK => ?_) AllReadyG.nil
   go_simp
   go_wp2_with fail
   refine (mergeo_any e.s.ca e.s.pe _ (HC.out _ hHeld).2.2.2.2.1 (HC.out _ hHeld).2.2.2.2.2 HL2.out HL1.out).mono ?_
   rintro e' W10 ⟨r, rfl, okr, nwr, hqr, hbr, owr, plr⟩
   have HX := hid (HFIN.out _ _ r hHeld hbr okr nwr hqr owr plr)
   have hH2 := Below.on hHeld hbr
   refine hK.out _ _ hH2 (fun _ => ?_)
   clear hK K hHeld okr nwr hqr owr plr hbr
   have hHeld := hH2
   clear hH2
   try simp only [Act.put, lqA, lqB, lqC, lqD, lqE, lqF]
   refine wpAnyG_take (i := 12) (v := ?_) rfl (by kernel_rfl) (by kernel_rfl) (by kernel_rfl) (by kernel_rfl) (fun _ _ _ h => h) (Or.inl ⟨by kernel_rfl, ?hy12⟩) (by assumption) ?_
   case hy12 => (intro wI hSw; (try dsimp only at hSw); obtain ⟨⟨a0, a1, a2, a3, a4, a5, a6, a7, a8, a9⟩, ⟨b0, b1, b2, b3, b4, b5, b6, b7, b8, b9⟩, t1, t2, -, -⟩ := HC.out _ hSw; go_simp; try with_reducible rfl)
   try simp only [Act.put, lqA, lqB, lqC, lqD, lqE, lqF]
   refine wpAnyG_take (i := 13) (v := ?_) rfl (by kernel_rfl) (by kernel_rfl) (by kernel_rfl) (by kernel_rfl) (fun _ _ _ h => h) (Or.inl ⟨by kernel_rfl, ?hy13⟩) (by assumption) ?_
   case hy13 => (intro wI hSw; (try dsimp only at hSw); obtain ⟨⟨a0, a1, a2, a3, a4, a5, a6, a7, a8, a9⟩, ⟨b0, b1, b2, b3, b4, b5, b6, b7, b8, b9⟩, t1, t2, -, -⟩ := HC.out _ hSw; go_simp; try with_reducible rfl)
   try simp only [Act.put, lqA, lqB, lqC, lqD, lqE, lqF]
   have hG := hHeld
   clear hHeld
   have hHeld : True := trivial
   refine wpAnyG_gateOp rfl (by kernel_rfl) (fun K hK => ?_)
   obtain ⟨⟨a0, a1, a2, a3, a4, a5, a6, a7, a8, a9⟩, ⟨b0, b1, b2, b3, b4, b5, b6, b7, b8, b9⟩, t1, t2, -, -⟩ := HC.out _ hG
   clear hG
   go_simp
   refine hK.out _ _ trivial (fun _ => ?_)
   clear hK K
   try simp only [Act.put, lqA, lqB, lqC, lqD, lqE, lqF]
   refine wpAnyH_take (i := 15) (v := ?_) rfl (by kernel_rfl) (by kernel_rfl) (by kernel_rfl) (fun _ _ _ h => h) (Or.inl ⟨by kernel_rfl, ?hy15⟩) (by assumption) ?_
   case hy15 => (intro wI hSw; (try dsimp only at hSw); go_simp; try with_reducible rfl)
   try simp only [Act.put, lqA, lqB, lqC, lqD, lqE, lqF]
   refine wpAnyH_take (i := 16) (v := ?_) rfl (by kernel_rfl) (by kernel_rfl) (by kernel_rfl) (fun _ _ _ h => h) (Or.inl ⟨by kernel_rfl, ?hy16⟩) (by assumption) ?_
   case hy16 => (intro wI hSw; (try dsimp only at hSw); go_simp; try with_reducible rfl)
   try simp only [Act.put, lqA, lqB, lqC, lqD, lqE, lqF]
   refine wpAnyH_ready (rs := [17]) (by kernel_rfl) (by simp) ?_
   refine AllReadyH.cons rfl (fun K hK => ?_) AllReadyH.nil
   go_simp
   refine hK.out _ _ trivial (fun _ => ?_)
   clear hK K
   try simp only [Act.put, lqA, lqB, lqC, lqD, lqE, lqF]
   refine wpAnyH_done (by kernel_rfl) ?_ _
   go_wp2_with fail
   go_meet
   exact ⟨r, HX.out⟩
  case rest =>
   obtain ⟨r, hR⟩ := hcut
   have hF1 : Fok mm (pab (st L id ⟨e.g, { e.s with ca := r, pe := sx0 }⟩)) := by rw [hR.ab]; exact HFK.out.cacs id
   have hsy : sy (pab (st L id ⟨e.g, { e.s with ca := r, pe := sx0 }⟩)) id = sy (pab L) id := by rw [hR.ab]; exact ((tre_upd _ id cacS (fun _ => ⟨rfl, rfl⟩)).sy id).symm
   have hE1 := HE.out.kb (hR.bel HP.out) hB
   have CSY := hid (fsynced_one hE1 hR.pf hF1.nok id hi)
   rw [hsy] at CSY
   clear HC HFIN HL1 HL2
   cases hsv : sy (pab L) id
   ·rw [hsv] at CSY
    have HCOM : Hid (comF 41 (pab L) id = ((kds 41 (upd (pab L) id comS) id []).1, [id] ++ (kds 41 (upd (pab L) id comS) id []).2)) := by
     rw [Hid, comF_eq, HS2.out]
     simp only [hsv]
     exact kds_acc 41 _ id [id] []
    obtain ⟨-, l2, l3⟩ := hF1.len hm hR.pf (HG1.out _)
    have HAP : Hid (∀ W, Below wc.heap.size wc W → Calls Tryz.prog 76 #[.pointer (some ⟨e.g, 0, none⟩)] W fun e' w' => e' = .returned undef ∧ ∃ L2 e2, PfR base w p m L (upd (pab L) id comS) w' L2 ∧ gt L2 id = some e2 ∧ e2.g = e.g) := fun W hW => by
     refine (fapply_any (hR.pf.on hW) (HG1.out _) l2 l3).mono fun e' w' ⟨h1, r2, _, hR2⟩ => ⟨h1, _, ⟨e.g, { { e.s with ca := r, pe := sx0 } with no := r2, ca := sx0 }⟩, (hR.trans ((PfR.refl hR.pf hW).trans hR2)).as ?_, ?_, rfl⟩
     ·rw [hR.ab, upd_upd]
      rfl
     ·rw [gt_st, if_pos rfl, HG1.out]
      rfl
    have HAB : Hid (∀ (W : World) L2 e2, PfR base w p m L (upd (pab L) id comS) W L2 → gt L2 id = some e2 → Calls Tryz.prog 77 #[.pointer (some ⟨p, 0, none⟩), .pointer (some ⟨e2.g, 0, none⟩)] (W.alloc (.cells #[.int .i64 id] 3)) fun e' w' => ∃ vl, e' = .returned vl ∧ (∃ a c, vl = .slice a (kds 41 (upd (pab L) id comS) id []).2.length c) ∧ Src Tryz.prog 1 40 vl (kds 41 (upd (pab L) id comS) id []).2.length (ic (kds 41 (upd (pab L) id comS) id []).2) w' ∧ (kds 41 (upd (pab L) id comS) id []).2.length ≤ 1000 ∧ w'.ownsRow w.heap.size 3 1 (.slice (some ⟨W.heap.size, 0, none⟩) 1 1) 1 (ic [id]) ∧ w.heap.size ≤ w'.heap.size ∧ ∀ w2 : World, w'.grownBy w2 (some W.heap.size) → ∃ L3, PfR base w p m L (kds 41 (upd (pab L) id comS) id []).1 w2 L3) := fun W L2 e2 hR2 hg2 => by
     have hb := bel_new W (.cells #[.int .i64 id] 3)
     have hF2 : Fok mm (pab L2) := by rw [hR2.ab, show upd (pab L) id comS = upd (upd (pab L) id cacS) id aplS by rw [upd_upd]; rfl]; exact (HFK.out.cacs id).apls id
     have h2 := hR2.pf.on hb
     have hE2 := (HE.out.kb (hR2.bel HP.out) hB).on hb
     have hab2 := hR2.ab
     refine (fapplybelow_any hm hE2 hB h2 hF2 hg2).mono fun e' w' ⟨L3, vl, h1, ho, hR3⟩ => ?_
     rw [hab2] at ho hR3
     obtain ⟨hn1, hn2⟩ := hR2.pf.newb (Nat.le_refl W.heap.size)
     have hws := hR2.kp.size
     have hkp := hR3.kp.size
     rw [size_new] at hkp
     have hbb : W.heap.size ∉ m :: wbs L2 := fun hm' => by
      rcases List.mem_cons.1 hm' with h3 | h3
      ·have := hR2.pf.lt.2
       omega
      ·exact hn1 h3
     have hB1 : Bk w' W.heap.size 3 #[.int .i64 id] := (bk_new W #[.int .i64 id] 3).kp hR3.kp hbb
     obtain ⟨l, hl1, hl2, hl3, hl4, hl5⟩ := own_sl (l := sg (kds 41 (upd (pab L) id comS) id []).2) (by rw [ic_mcs]; exact ho) (by rw [sg_length]) (sg_size _)
     have hsrc := hl4.src (P := Tryz.prog) (t := 40) (e := 3) Tryz.underlying40
     rw [hl3, ic_mcs, hl2] at hsrc
     have hlen : (kds 41 (upd (pab L) id comS) id []).2.length ≤ 1000 := by
      have hk := kds_length 41 (upd (pab L) id comS) id [] (by rw [← hab2]; exact hF2.inv) (by rw [← hab2]; exact hF2.nof) (by rw [← hab2, gt_pab, hg2]; rfl)
      have hd := dsc_le (upd (pab L) id comS) id
      have hl := hF2.inv.len
      rw [hab2] at hl
      simp only [List.length_nil] at hk
      omega
     refine ⟨vl, h1, ⟨l.a, l.c, by rw [hl1, Sl.v, hl2]⟩, by rw [hl1, Sl.v, hl2]; exact hsrc, hlen, ⟨by simp [ic], .inr ⟨W.heap.size, 1, #[.int .i64 id], rfl, hws, hB1.obj, by omega, by simp [maxLen], by simp, by simp [ic]⟩⟩, by omega, fun w2 hg => ⟨L3, ?_⟩⟩
     have hRR := hR2.trans ((PfR.refl hR2.pf hb).trans hR3)
     refine hRR.ext HP.out hws (fun hm' => ?_) (hR3.ofr _ (by rw [size_new]; omega) hn2) (kp_of_grown hg)
     rcases hR3.new _ hm' with h3 | h3
     ·exact hn1 h3
     ·rw [size_new] at h3
      omega
    obtain ⟨i0, hi', hz0, hz1, hz2⟩ := infoMP infoM1
    clear hR hF1 hsy hE1 l2 l3 hsv
    go_wp2_with fail
    refine CSY.out.mono ?_
    rintro e' w5 ⟨rfl, q5, hw5⟩
    have HB5 : Hid (Below wc.heap.size wc w5) := by rw [Hid, hw5]; exact below_drewN (Below.refl _ _) q5
    clear hw5 CSY
    go_wp2_with fail
    refine (HAP.out _ HB5.out).mono ?_
    rintro e' w6 ⟨rfl, L2, e2, hR2, hg2, hge⟩
    have HAB2 := hid (HAB.out w6 L2 e2 hR2 hg2)
    rw [hge] at HAB2
    clear HAP HAB hR2 hg2 hge HB5
    go_wp2_with fail
    refine HAB2.out.mono ?_
    rintro e' w7 ⟨vl, rfl, ⟨va, vc, rfl⟩, hsrc, hln, how, hsz, hfin⟩
    have HSRC := hid hsrc
    have HOW := hid how
    have HFN := hid hfin
    have HEND : Hid (∀ (v8 : Value) (w8 : World), w8.ownsRow w.heap.size 3 1 v8 (1 + (kds 41 (upd (pab L) id comS) id []).2.length) (ic [id] ++ ic (kds 41 (upd (pab L) id comS) id []).2) → w7.grownBy w8 (some w6.heap.size) → CoR base w p m L es id (.returned (.tuple #[v8, .nilIface])) w8) := fun v8 w8 o8 g8 => by
     obtain ⟨L3, hR3⟩ := HFN.out w8 g8
     refine ⟨L3, v8, by rw [HS1.out]; rfl, ?_, hR3.as (by rw [HCOM.out])⟩
     rw [HCOM.out]
     show w8.ownsRow _ _ _ v8 ([id] ++ _).length (ic ([id] ++ _))
     rw [ic_append, List.length_append]
     exact o8
    clear hsrc how hfin HAB2 HFN HCOM
    generalize (kds 41 (upd (pab L) id comS) id []).2.length = kl at *
    go_wp2_with (at_builtin; refine wpList_append_own_at _ rfl (.tmp 39) (.tmp 42) 40 40 rfl w.heap.size 3 i0 (.int .i64 0) 1 8 Tryz.underlying40 hi' hz0 hz1 hz2 rfl _ _ _ rfl HOW.out _ _ _ rfl HSRC.out (by simp only [maxLen]; omega) (fitsM (by omega) (by decide)) hsz ?_; intro v8 w8 o8 g8 a8; have HX := hid (HEND.out v8 w8 o8 g8); clear o8 g8 a8)
    go_ret2
    exact HX.out
   ·rw [hsv] at CSY
    have HX : Hid (∀ q, CoR base w p m L es id (.returned (.tuple #[.slice none 0 0, .nilIface])) (wc.drewN q)) := fun q => ⟨_, .slice none 0 0, by rw [HS1.out]; rfl, by rw [comF_eq, HS2.out]; simp only [hsv]; exact World.ownsRow_nil _ _ _ _, (hR.trans (PfR.refl hR.pf (below_drewN (Below.refl _ _) q))).as (by rw [comF_eq, HS2.out]; simp only [hsv]; exact hR.ab)⟩
    clear hR hF1 hsy hE1 hsv
    go_wp2_with fail
    refine CSY.out.mono ?_
    rintro e' w5 ⟨rfl, q5, rfl⟩
    have HY := hid (HX.out q5)
    go_wp2
    go_ret2
    exact HY.out
end
section
def ancB : Nat → Fo → Int → Int → Bool
 | 0, _, _, _ => false
 | n + 1, F, x, id => match gt F x with
  | none => false
  | some s => x == id || ancB n F s.par id
def syB : Nat → Fo → Int → Bool
 | 0, _, _ => false
 | n + 1, F, x => match gt F x with
  | none => false
  | some s => s.par != 0 && (s.syn || syB n F s.par)
theorem ancB_eq {F : Fo} (hA : Acy F) : ∀ (n : Nat) (x id : Int), dpt F x ≤ n → ancB n F x id = anc F x id
 | 0, x, id, h => by
  cases hg : gt F x with
  | none => rw [anc_none hg]; rfl
  | some s =>
   have := dpt_lt hA hg
   omega
 | n + 1, x, id, h => by
  rw [ancB]
  cases hg : gt F x with
  | none => rw [anc_none hg]
  | some s =>
   have := dpt_lt hA hg
   rw [anc_some hg]
   dsimp only
   rw [ancB_eq hA n s.par id (by omega)]
theorem syB_eq {F : Fo} (hA : Acy F) : ∀ (n : Nat) (x : Int), dpt F x ≤ n → syB n F x = sy F x
 | 0, x, h => by
  cases hg : gt F x with
  | none => rw [sy_none hg]; rfl
  | some s =>
   have := dpt_lt hA hg
   omega
 | n + 1, x, h => by
  rw [syB]
  cases hg : gt F x with
  | none => rw [sy_none hg]
  | some s =>
   have := dpt_lt hA hg
   rw [sy_some hg]
   dsimp only
   rw [syB_eq hA n s.par (by omega)]
theorem Inv.anc {F : Fo} (h : Inv F) (x id : Int) : Proofs.YtdgknofpkafppaaGreatDoor.anc F x id = ancB 40 F x id := (ancB_eq h.acy 40 x id (Nat.le_trans (dpt_le F x) h.len)).symm
theorem Inv.sy {F : Fo} (h : Inv F) (x : Int) : Proofs.YtdgknofpkafppaaGreatDoor.sy F x = syB 40 F x := (syB_eq h.acy 40 x (Nat.le_trans (dpt_le F x) h.len)).symm
def subEB (F : Fo) (id p : Int) : Nat := match gt F id, gt F p with
 | some s, some _ => if s.par ≠ 0 then 10 else if ancB 40 F p id then 11 else 0
 | _, _ => 5
def subFB (F : Fo) (id p : Int) : Fo := if subEB F id p = 0 then upd (upd F id fun s => { s with par := p, syn := true }) p (fun q => plcS [id, 0, 0] (ordS (sg (dr id (un1 (lat q)) ++ [id])) q)) else F
theorem Inv.subE {F : Fo} (h : Inv F) (id p : Int) : Proofs.YtdgknofpkafppaaGreatDoor.subE F id p = subEB F id p := by
 unfold Proofs.YtdgknofpkafppaaGreatDoor.subE subEB
 rw [h.anc]
 rfl
theorem Inv.subF {F : Fo} (h : Inv F) (id p : Int) : Proofs.YtdgknofpkafppaaGreatDoor.subF F id p = subFB F id p := by
 unfold Proofs.YtdgknofpkafppaaGreatDoor.subF subFB
 rw [h.subE]
def kstB (kd : Fo → Int → List Int → Fo × List Int) (r : Fo × List Int) (k : Int) : Fo × List Int := match gt r.1 k with
 | none => r
 | some c => if k = 0 ∨ syB 40 r.1 k = false then r else if non c.ca then kd r.1 k r.2 else kd (upd r.1 k aplS) k (r.2 ++ [k])
def kdsB : Nat → Fo → Int → List Int → Fo × List Int
 | 0, F, _, l => (F, l)
 | n + 1, F, x, l => match gt F x with
  | none => (F, l)
  | some s => (un1 s.no.od).foldl (kstB (kdsB n)) (F, l)
theorem kdsB_eq : ∀ (n : Nat) (F : Fo) (x : Int) (l : List Int), Inv F → kds n F x l = kdsB n F x l
 | 0, _, _, _, _ => rfl
 | n + 1, F, x, l, h => by
  rw [kds_succ, kdsB]
  cases hgx : gt F x with
  | none => rfl
  | some s =>
   dsimp only
   have hst : ∀ (r : Fo × List Int) (k : Int), Inv r.1 → kst n r k = kstB (kdsB n) r k ∧ Inv (kst n r k).1 := fun r k hr => by
    unfold kst kstB
    rw [hr.sy]
    cases hgk : gt r.1 k with
    | none => exact ⟨rfl, hr⟩
    | some c =>
     dsimp only
     split
     ·exact ⟨rfl, hr⟩
     ·split
      ·exact ⟨kdsB_eq n _ _ _ hr, (kds_inv n _ _ _ hr).1⟩
      ·exact ⟨kdsB_eq n _ _ _ (hr.apls k), (kds_inv n _ _ _ (hr.apls k)).1⟩
   have hf : ∀ (L : List Int) (r : Fo × List Int), Inv r.1 → L.foldl (kst n) r = L.foldl (kstB (kdsB n)) r := fun L => by
    induction L with
    | nil => exact fun r _ => rfl
    | cons k L ih =>
     intro r hr
     obtain ⟨h1, h2⟩ := hst r k hr
     rw [List.foldl_cons, List.foldl_cons, ← h1]
     exact ih _ h2
   exact hf _ (F, l) h
def comB (F : Fo) (id : Int) : Fo × List Int := match gt F id with
 | none => (F, [])
 | some _ => if syB 40 F id then (upd F id cacS, []) else kdsB 41 (upd F id comS) id [id]
theorem Inv.comF {F : Fo} (h : Inv F) (id : Int) : Proofs.YtdgknofpkafppaaGreatDoor.comF 41 F id = comB F id := by
 rw [comF_eq, comB, h.sy]
 cases hgx : gt F id with
 | none => rfl
 | some s =>
  dsimp only
  split
  ·rfl
  ·exact kdsB_eq 41 _ _ _ (h.coms id)
def awF : Fo := upd (subFB (addF (addF [] 1) 2) 2 1) 2 (frmS 9)
theorem aw_facts : addE [] 1 = 0 ∧ addE (addF [] 1) 2 = 0 ∧ subEB (addF (addF [] 1) 2) 2 1 = 0 ∧ hasE (subFB (addF (addF [] 1) 2) 2 1) 2 = 0 ∧ hasE awF 2 = 0 ∧ (comB awF 2).2 = [] ∧ hasE (comB awF 2).1 1 = 0 ∧ (comB (comB awF 2).1 1).2 = [1, 2] := by decide
end
end Go.Proofs.YtdgknofpkafppaaGreatDoor
