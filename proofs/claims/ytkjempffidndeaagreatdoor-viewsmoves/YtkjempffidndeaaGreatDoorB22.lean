/- Lemmas that the proof leans on. -/
import Derived.Test.YtkjempffidndeaaGreatDoorB21
namespace Go.Proofs.YtkjempffidndeaaGreatDoor
open Go Go.RowKit
open List renaming getElem_toArray → lqA, getElem_cons_zero → lqB, getElem_cons_succ → lqC, setIfInBounds_toArray → lqD, set_cons_zero → lqE, set_cons_succ → lqF
set_option maxRecDepth 100000
set_option maxHeartbeats 2000000
section
variable {base : Nat} {w0 w w' : World} {p m : Nat} {L L' : Po} {F : Fo} {id : Int} {es : List Addr} {e : Ps}
theorem Bk.stl {u : World} {g T : Nat} : ∀ (vs : List Value) (o : Nat) (cs : List Value), Bk u g T cs.toArray → Bk (stl u g o vs) g T (setl cs o vs).toArray := fun vs => by
 induction vs generalizing u with
 | nil => exact fun o cs h => h
 | cons x vs ih =>
  intro o cs h
  have := h.set o x
  simp only [List.setIfInBounds_toArray] at this
  exact ih (o + 1) (cs.set o x) this
theorem pcs_no (s : Sr) (r : Sx) : setl (pcs s) 20 (sxc r) = pcs { s with no := r } := rfl
theorem pcs_ca (s : Sr) (r : Sx) : setl (pcs s) 10 (sxc r) = pcs { s with ca := r } := rfl
theorem pcs_pe (s : Sr) (r : Sx) : setl (pcs s) 0 (sxc r) = pcs { s with pe := r } := rfl
theorem Bk.no {u : World} {g T : Nat} {s : Sr} (h : Bk u g T (pcs s).toArray) (r : Sx) : Bk (sto u g 20 r) g T (pcs { s with no := r }).toArray := by
 have := Bk.stl (sxc r) 20 (pcs s) h
 rw [pcs_no] at this
 exact this
theorem Bk.ca {u : World} {g T : Nat} {s : Sr} (h : Bk u g T (pcs s).toArray) (r : Sx) : Bk (sto u g 10 r) g T (pcs { s with ca := r }).toArray := by
 have := Bk.stl (sxc r) 10 (pcs s) h
 rw [pcs_ca] at this
 exact this
theorem Bk.pe {u : World} {g T : Nat} {s : Sr} (h : Bk u g T (pcs s).toArray) (r : Sx) : Bk (sto u g 0 r) g T (pcs { s with pe := r }).toArray := by
 have := Bk.stl (sxc r) 0 (pcs s) h
 rw [pcs_pe] at this
 exact this
theorem kp_sto (u : World) (g o : Nat) (r : Sx) : Kp [g] u (sto u g o r) := kp_stl u g o (sxc r)
theorem Pf.cells (h : Pf base w p m L) (he : gt L id = some e) : (w.cell? ⟨e.g, 0, none⟩ = some (.bool e.s.pe.at_) ∧ w.cell? ⟨e.g, 1, none⟩ = some (.int .i64 e.s.pe.buf) ∧ w.cell? ⟨e.g, 2, none⟩ = some (.slice e.s.pe.dm.a e.s.pe.dm.n e.s.pe.dm.c) ∧ w.cell? ⟨e.g, 3, none⟩ = some (.slice e.s.pe.fr.a e.s.pe.fr.n e.s.pe.fr.c) ∧ w.cell? ⟨e.g, 4, none⟩ = some (.bool e.s.pe.inp) ∧ w.cell? ⟨e.g, 5, none⟩ = some (.bool e.s.pe.all) ∧ w.cell? ⟨e.g, 6, none⟩ = some (.slice e.s.pe.rg.a e.s.pe.rg.n e.s.pe.rg.c) ∧ w.cell? ⟨e.g, 7, none⟩ = some (.bool e.s.pe.ord) ∧ w.cell? ⟨e.g, 8, none⟩ = some (.slice e.s.pe.od.a e.s.pe.od.n e.s.pe.od.c) ∧ w.cell? ⟨e.g, 9, none⟩ = some (.slice e.s.pe.pl.a e.s.pe.pl.n e.s.pe.pl.c)) ∧ (w.cell? ⟨e.g, 10, none⟩ = some (.bool e.s.ca.at_) ∧ w.cell? ⟨e.g, 11, none⟩ = some (.int .i64 e.s.ca.buf) ∧ w.cell? ⟨e.g, 12, none⟩ = some (.slice e.s.ca.dm.a e.s.ca.dm.n e.s.ca.dm.c) ∧ w.cell? ⟨e.g, 13, none⟩ = some (.slice e.s.ca.fr.a e.s.ca.fr.n e.s.ca.fr.c) ∧ w.cell? ⟨e.g, 14, none⟩ = some (.bool e.s.ca.inp) ∧ w.cell? ⟨e.g, 15, none⟩ = some (.bool e.s.ca.all) ∧ w.cell? ⟨e.g, 16, none⟩ = some (.slice e.s.ca.rg.a e.s.ca.rg.n e.s.ca.rg.c) ∧ w.cell? ⟨e.g, 17, none⟩ = some (.bool e.s.ca.ord) ∧ w.cell? ⟨e.g, 18, none⟩ = some (.slice e.s.ca.od.a e.s.ca.od.n e.s.ca.od.c) ∧ w.cell? ⟨e.g, 19, none⟩ = some (.slice e.s.ca.pl.a e.s.ca.pl.n e.s.ca.pl.c)) ∧ (w.cell? ⟨e.g, 20, none⟩ = some (.bool e.s.no.at_) ∧ w.cell? ⟨e.g, 21, none⟩ = some (.int .i64 e.s.no.buf) ∧ w.cell? ⟨e.g, 22, none⟩ = some (.slice e.s.no.dm.a e.s.no.dm.n e.s.no.dm.c) ∧ w.cell? ⟨e.g, 23, none⟩ = some (.slice e.s.no.fr.a e.s.no.fr.n e.s.no.fr.c) ∧ w.cell? ⟨e.g, 24, none⟩ = some (.bool e.s.no.inp) ∧ w.cell? ⟨e.g, 25, none⟩ = some (.bool e.s.no.all) ∧ w.cell? ⟨e.g, 26, none⟩ = some (.slice e.s.no.rg.a e.s.no.rg.n e.s.no.rg.c) ∧ w.cell? ⟨e.g, 27, none⟩ = some (.bool e.s.no.ord) ∧ w.cell? ⟨e.g, 28, none⟩ = some (.slice e.s.no.od.a e.s.no.od.n e.s.no.od.c) ∧ w.cell? ⟨e.g, 29, none⟩ = some (.slice e.s.no.pl.a e.s.no.pl.n e.s.no.pl.c)) :=
 ⟨⟨h.cell he, h.cell he, h.cell he, h.cell he, h.cell he, h.cell he, h.cell he, h.cell he, h.cell he, h.cell he⟩, ⟨h.cell he, h.cell he, h.cell he, h.cell he, h.cell he, h.cell he, h.cell he, h.cell he, h.cell he, h.cell he⟩, ⟨h.cell he, h.cell he, h.cell he, h.cell he, h.cell he, h.cell he, h.cell he, h.cell he, h.cell he, h.cell he⟩⟩
theorem fapply_any (h : Pf base w p m L) (he : gt L id = some e) (l2 : e.s.ca.Len 1000) (l3 : e.s.no.Len 1000) :
  Calls Tryz.prog 63 #[.pointer (some ⟨e.g, 0, none⟩)] w fun e' w' => e' = .returned undef ∧ ∃ r : Sx, r.q = apl e.s.no.q e.s.ca.q ∧ PfR base w p m L (upd (pab L) id aplS) w' (st L id ⟨e.g, { e.s with no := r, ca := sx0 }⟩) := by
 have HC : Hid (∀ W : World, Below w.heap.size w W → (W.cell? ⟨e.g, 10, none⟩ = some (.bool e.s.ca.at_) ∧ W.cell? ⟨e.g, 11, none⟩ = some (.int .i64 e.s.ca.buf) ∧ W.cell? ⟨e.g, 12, none⟩ = some (.slice e.s.ca.dm.a e.s.ca.dm.n e.s.ca.dm.c) ∧ W.cell? ⟨e.g, 13, none⟩ = some (.slice e.s.ca.fr.a e.s.ca.fr.n e.s.ca.fr.c) ∧ W.cell? ⟨e.g, 14, none⟩ = some (.bool e.s.ca.inp) ∧ W.cell? ⟨e.g, 15, none⟩ = some (.bool e.s.ca.all) ∧ W.cell? ⟨e.g, 16, none⟩ = some (.slice e.s.ca.rg.a e.s.ca.rg.n e.s.ca.rg.c) ∧ W.cell? ⟨e.g, 17, none⟩ = some (.bool e.s.ca.ord) ∧ W.cell? ⟨e.g, 18, none⟩ = some (.slice e.s.ca.od.a e.s.ca.od.n e.s.ca.od.c) ∧ W.cell? ⟨e.g, 19, none⟩ = some (.slice e.s.ca.pl.a e.s.ca.pl.n e.s.ca.pl.c)) ∧ (W.cell? ⟨e.g, 20, none⟩ = some (.bool e.s.no.at_) ∧ W.cell? ⟨e.g, 21, none⟩ = some (.int .i64 e.s.no.buf) ∧ W.cell? ⟨e.g, 22, none⟩ = some (.slice e.s.no.dm.a e.s.no.dm.n e.s.no.dm.c) ∧ W.cell? ⟨e.g, 23, none⟩ = some (.slice e.s.no.fr.a e.s.no.fr.n e.s.no.fr.c) ∧ W.cell? ⟨e.g, 24, none⟩ = some (.bool e.s.no.inp) ∧ W.cell? ⟨e.g, 25, none⟩ = some (.bool e.s.no.all) ∧ W.cell? ⟨e.g, 26, none⟩ = some (.slice e.s.no.rg.a e.s.no.rg.n e.s.no.rg.c) ∧ W.cell? ⟨e.g, 27, none⟩ = some (.bool e.s.no.ord) ∧ W.cell? ⟨e.g, 28, none⟩ = some (.slice e.s.no.od.a e.s.no.od.n e.s.no.od.c) ∧ W.cell? ⟨e.g, 29, none⟩ = some (.slice e.s.no.pl.a e.s.no.pl.n e.s.no.pl.c)) ∧ e.g < W.heap.size ∧ (∀ j, W.frozen? ⟨e.g, j, none⟩ = false) ∧ e.s.no.Ok W ∧ e.s.ca.Ok W) := fun W hW => by
  have h1 := h.on hW
  exact ⟨(h1.cells he).2.1, (h1.cells he).2.2, (h1.wlt he (mem_wb.2 (.inl rfl))).2, h1.fz he, (h1.rows id e he).ok.no, (h1.rows id e he).ok.ca⟩
 have HFIN : Hid (∀ (W W1 : World) (r : Sx), Below w.heap.size w W → Below W.heap.size W W1 → r.Ok W1 → r.New W.heap.size → r.q = apl e.s.no.q e.s.ca.q → W1.ownsRow W.heap.size 46 3 (.slice r.pl.a r.pl.n r.pl.c) r.pl.n (mcs r.pl.l) → r.Plf → r.q = apl e.s.no.q e.s.ca.q ∧ PfR base w p m L (upd (pab L) id aplS) (sto (sto W1 e.g 20 r) e.g 10 sx0) (st L id ⟨e.g, { e.s with no := r, ca := sx0 }⟩)) := fun W W1 r hb hb1 ok nw hq ho hp => by
  have hb2 := Below.on hb hb1
  have hB := ((h.on hb2).bk he)
  exact ⟨hq, h.putAp he hb2 r ok (nw.low hb.size) (ownsRow_low ho hb.size) hp ((kp_sto _ _ _ _).trans (kp_sto _ _ _ _) (fun k hk _ => hk)) ((hB.no r).ca sx0) hq⟩
 have HL2 := hid l2
 have HL3 := hid l3
 clear h he l2 l3
 go_enter Tryz.func63, Tryz.ntmps63
 go_upto_region 0 with fail
 refine wp_region_gate_drew (g := 14) (S := RowKit.Below w.heap.size w) (by kernel_rfl) ?hh (fun hHeld => ?_)
 case hh => exact ((Below.refl _ _).drew)
 generalize w.drew = W0 at hHeld ⊢
 try dsimp only at hHeld
 refine wpAnyG_take (i := 0) (v := ?_) rfl (by kernel_rfl) (by kernel_rfl) (by kernel_rfl) (by kernel_rfl) (fun _ _ _ h => h) (Or.inl ⟨by kernel_rfl, ?hy0⟩) (by assumption) ?_
 case hy0 => (intro wI hSw; (try dsimp only at hSw); obtain ⟨⟨a0, a1, a2, a3, a4, a5, a6, a7, a8, a9⟩, ⟨b0, b1, b2, b3, b4, b5, b6, b7, b8, b9⟩, t1, t2, -, -⟩ := HC.out _ hSw; go_simp; try with_reducible rfl)
 try simp only [Act.put, lqA, lqB, lqD, lqE, lqF]
 refine wpAnyG_takeFree (i := 1) (v := ?_) rfl (by kernel_rfl) (by kernel_rfl) (by kernel_rfl) (by kernel_rfl) (fun _ _ _ h => h) (Or.inl ⟨by kernel_rfl, ?hy1⟩) (by assumption) ?_
 case hy1 => (intro wI _; go_simp; try with_reducible rfl)
 try simp only [Act.put, lqA, lqB, lqC, lqD, lqE, lqF]
 refine wpAnyG_take (i := 2) (v := ?_) rfl (by kernel_rfl) (by kernel_rfl) (by kernel_rfl) (by kernel_rfl) (fun _ _ _ h => h) (Or.inl ⟨by kernel_rfl, ?hy2⟩) (by assumption) ?_
 case hy2 => (intro wI hSw; (try dsimp only at hSw); obtain ⟨⟨a0, a1, a2, a3, a4, a5, a6, a7, a8, a9⟩, ⟨b0, b1, b2, b3, b4, b5, b6, b7, b8, b9⟩, t1, t2, -, -⟩ := HC.out _ hSw; go_simp; try with_reducible rfl)
 try simp only [Act.put, lqA, lqB, lqC, lqD, lqE, lqF]
 refine wpAnyG_take (i := 3) (v := ?_) rfl (by kernel_rfl) (by kernel_rfl) (by kernel_rfl) (by kernel_rfl) (fun _ _ _ h => h) (Or.inl ⟨by kernel_rfl, ?hy3⟩) (by assumption) ?_
 case hy3 => (intro wI hSw; (try dsimp only at hSw); obtain ⟨⟨a0, a1, a2, a3, a4, a5, a6, a7, a8, a9⟩, ⟨b0, b1, b2, b3, b4, b5, b6, b7, b8, b9⟩, t1, t2, -, -⟩ := HC.out _ hSw; go_simp; try with_reducible rfl)
 try simp only [Act.put, lqA, lqB, lqC, lqD, lqE, lqF]
 refine wpAnyG_take (i := 4) (v := ?_) rfl (by kernel_rfl) (by kernel_rfl) (by kernel_rfl) (by kernel_rfl) (fun _ _ _ h => h) (Or.inl ⟨by kernel_rfl, ?hy4⟩) (by assumption) ?_
 case hy4 => (intro wI hSw; (try dsimp only at hSw); obtain ⟨⟨a0, a1, a2, a3, a4, a5, a6, a7, a8, a9⟩, ⟨b0, b1, b2, b3, b4, b5, b6, b7, b8, b9⟩, t1, t2, -, -⟩ := HC.out _ hSw; go_simp; try with_reducible rfl)
 try simp only [Act.put, lqA, lqB, lqC, lqD, lqE, lqF]
 refine wpAnyG_take (i := 5) (v := ?_) rfl (by kernel_rfl) (by kernel_rfl) (by kernel_rfl) (by kernel_rfl) (fun _ _ _ h => h) (Or.inl ⟨by kernel_rfl, ?hy5⟩) (by assumption) ?_
 case hy5 => (intro wI hSw; (try dsimp only at hSw); obtain ⟨⟨a0, a1, a2, a3, a4, a5, a6, a7, a8, a9⟩, ⟨b0, b1, b2, b3, b4, b5, b6, b7, b8, b9⟩, t1, t2, -, -⟩ := HC.out _ hSw; go_simp; try with_reducible rfl)
 try simp only [Act.put, lqA, lqB, lqC, lqD, lqE, lqF]
 refine wpAnyG_take (i := 6) (v := ?_) rfl (by kernel_rfl) (by kernel_rfl) (by kernel_rfl) (by kernel_rfl) (fun _ _ _ h => h) (Or.inl ⟨by kernel_rfl, ?hy6⟩) (by assumption) ?_
 case hy6 => (intro wI hSw; (try dsimp only at hSw); obtain ⟨⟨a0, a1, a2, a3, a4, a5, a6, a7, a8, a9⟩, ⟨b0, b1, b2, b3, b4, b5, b6, b7, b8, b9⟩, t1, t2, -, -⟩ := HC.out _ hSw; go_simp; try with_reducible rfl)
 try simp only [Act.put, lqA, lqB, lqC, lqD, lqE, lqF]
 refine wpAnyG_take (i := 7) (v := ?_) rfl (by kernel_rfl) (by kernel_rfl) (by kernel_rfl) (by kernel_rfl) (fun _ _ _ h => h) (Or.inl ⟨by kernel_rfl, ?hy7⟩) (by assumption) ?_
 case hy7 => (intro wI hSw; (try dsimp only at hSw); obtain ⟨⟨a0, a1, a2, a3, a4, a5, a6, a7, a8, a9⟩, ⟨b0, b1, b2, b3, b4, b5, b6, b7, b8, b9⟩, t1, t2, -, -⟩ := HC.out _ hSw; go_simp; try with_reducible rfl)
 try simp only [Act.put, lqA, lqB, lqC, lqD, lqE, lqF]
 refine wpAnyG_take (i := 8) (v := ?_) rfl (by kernel_rfl) (by kernel_rfl) (by kernel_rfl) (by kernel_rfl) (fun _ _ _ h => h) (Or.inl ⟨by kernel_rfl, ?hy8⟩) (by assumption) ?_
 case hy8 => (intro wI hSw; (try dsimp only at hSw); obtain ⟨⟨a0, a1, a2, a3, a4, a5, a6, a7, a8, a9⟩, ⟨b0, b1, b2, b3, b4, b5, b6, b7, b8, b9⟩, t1, t2, -, -⟩ := HC.out _ hSw; go_simp; try with_reducible rfl)
 try simp only [Act.put, lqA, lqB, lqC, lqD, lqE, lqF]
 refine wpAnyG_take (i := 9) (v := ?_) rfl (by kernel_rfl) (by kernel_rfl) (by kernel_rfl) (by kernel_rfl) (fun _ _ _ h => h) (Or.inl ⟨by kernel_rfl, ?hy9⟩) (by assumption) ?_
 case hy9 => (intro wI hSw; (try dsimp only at hSw); obtain ⟨⟨a0, a1, a2, a3, a4, a5, a6, a7, a8, a9⟩, ⟨b0, b1, b2, b3, b4, b5, b6, b7, b8, b9⟩, t1, t2, -, -⟩ := HC.out _ hSw; go_simp; try with_reducible rfl)
 try simp only [Act.put, lqA, lqB, lqC, lqD, lqE, lqF]
 refine wpAnyG_takeFree (i := 11) (v := ?_) rfl (by kernel_rfl) (by kernel_rfl) (by kernel_rfl) (by kernel_rfl) (fun _ _ _ h => h) (Or.inl ⟨by kernel_rfl, ?hy11⟩) (by assumption) ?_
 case hy11 => (intro wI _; go_simp; try with_reducible rfl)
 try simp only [Act.put, lqA, lqB, lqC, lqD, lqE, lqF]
 refine wpAnyG_ready (rs := [10]) (by kernel_rfl) (by simp) ?_
 refine AllReadyG.cons rfl (fun K hK => ?_) AllReadyG.nil
 go_simp
 go_wp2_with fail
 refine (applyo_any e.s.no e.s.ca _ (HC.out _ hHeld).2.2.2.2.1 (HC.out _ hHeld).2.2.2.2.2 HL3.out HL2.out).mono ?_
 rintro e' W10 ⟨r, rfl, okr, nwr, hqr, hbr, owr, plr⟩
 have HX := hid (HFIN.out _ _ r hHeld hbr okr nwr hqr owr plr)
 have hH2 := Below.on hHeld hbr
 refine hK.out _ _ hH2 (fun _ => ?_)
 clear hK K hHeld okr nwr hqr owr plr hbr
 have hHeld := hH2
 clear hH2
 try simp only [Act.put, lqA, lqB, lqC, lqD, lqE, lqF]
 refine wpAnyG_take (i := 12) (v := ?_) rfl (by kernel_rfl) (by kernel_rfl) (by kernel_rfl) (by kernel_rfl) (fun _ _ _ h => h) (Or.inl ⟨by kernel_rfl, ?hy12⟩) (by assumption) ?_
 case hy12 => (intro wI hSw; (try dsimp only at hSw); obtain ⟨⟨a0, a1, a2, a3, a4, a5, a6, a7, a8, a9⟩, ⟨b0, b1, b2, b3, b4, b5, b6, b7, b8, b9⟩, t1, t2, -, -⟩ := HC.out _ hSw; go_simp; try with_reducible rfl)
 try simp only [Act.put, lqA, lqB, lqC, lqD, lqE, lqF]
 refine wpAnyG_take (i := 13) (v := ?_) rfl (by kernel_rfl) (by kernel_rfl) (by kernel_rfl) (by kernel_rfl) (fun _ _ _ h => h) (Or.inl ⟨by kernel_rfl, ?hy13⟩) (by assumption) ?_
 case hy13 => (intro wI hSw; (try dsimp only at hSw); obtain ⟨⟨a0, a1, a2, a3, a4, a5, a6, a7, a8, a9⟩, ⟨b0, b1, b2, b3, b4, b5, b6, b7, b8, b9⟩, t1, t2, -, -⟩ := HC.out _ hSw; go_simp; try with_reducible rfl)
 try simp only [Act.put, lqA, lqB, lqC, lqD, lqE, lqF]
 have hG := hHeld
 clear hHeld
 have hHeld : True := trivial
 refine wpAnyG_gateOp rfl (by kernel_rfl) (fun K hK => ?_)
 obtain ⟨⟨a0, a1, a2, a3, a4, a5, a6, a7, a8, a9⟩, ⟨b0, b1, b2, b3, b4, b5, b6, b7, b8, b9⟩, t1, t2, -, -⟩ := HC.out _ hG
 clear hG
 go_simp
 refine hK.out _ _ trivial (fun _ => ?_)
 clear hK K
 try simp only [Act.put, lqA, lqB, lqC, lqD, lqE, lqF]
 refine wpAnyH_take (i := 15) (v := ?_) rfl (by kernel_rfl) (by kernel_rfl) (by kernel_rfl) (fun _ _ _ h => h) (Or.inl ⟨by kernel_rfl, ?hy15⟩) (by assumption) ?_
 case hy15 => (intro wI hSw; (try dsimp only at hSw); go_simp; try with_reducible rfl)
 try simp only [Act.put, lqA, lqB, lqC, lqD, lqE, lqF]
 refine wpAnyH_take (i := 16) (v := ?_) rfl (by kernel_rfl) (by kernel_rfl) (by kernel_rfl) (fun _ _ _ h => h) (Or.inl ⟨by kernel_rfl, ?hy16⟩) (by assumption) ?_
 case hy16 => (intro wI hSw; (try dsimp only at hSw); go_simp; try with_reducible rfl)
 try simp only [Act.put, lqA, lqB, lqC, lqD, lqE, lqF]
 refine wpAnyH_ready (rs := [17]) (by kernel_rfl) (by simp) ?_
 refine AllReadyH.cons rfl (fun K hK => ?_) AllReadyH.nil
 go_simp
 refine hK.out _ _ trivial (fun _ => ?_)
 clear hK K
 try simp only [Act.put, lqA, lqB, lqC, lqD, lqE, lqF]
 refine wpAnyH_done (by kernel_rfl) ?_ _
 go_wp2_with fail
 go_end0
 exact ⟨rfl, r, HX.out⟩
theorem Pf.com1 (h : Pf base w p m L) (he : gt L id = some e) {W W1 : World} {r : Sx} (hb : Below w.heap.size w W) (hb1 : Below W.heap.size W W1) (ok : r.Ok W1) (nw : r.New W.heap.size) (hq : r.q = mrg e.s.ca.q e.s.pe.q) (ho : W1.ownsRow W.heap.size 46 3 (.slice r.pl.a r.pl.n r.pl.c) r.pl.n (mcs r.pl.l)) (hp : r.Plf) :
  PfR base w p m L (upd (pab L) id cacS) (sto (sto W1 e.g 10 r) e.g 0 sx0) (st L id ⟨e.g, { e.s with ca := r, pe := sx0 }⟩) := by
 have hb2 := Below.on hb hb1
 have hB := ((h.on hb2).bk he)
 exact h.putCm he hb2 r ok (nw.low hb.size) (ownsRow_low ho hb.size) hp ((kp_sto _ _ _ _).trans (kp_sto _ _ _ _) (fun k hk _ => hk)) ((hB.ca r).pe sx0) hq
end
section
theorem Fok.nok {m : Nat} {L : Po} (h : Fok m (pab L)) : Nok L := by
 have hk : ∀ x e, gt L x = some e → gt (pab L) x = some e.s.f := fun x e he => by rw [gt_pab, he]; rfl
 have hp : ∀ x e, gt L x = some e → e.s.par = 0 ∨ (gt L e.s.par).isSome = true := fun x e he => by
  by_cases h0 : e.s.par = 0
  ·exact .inl h0
  ·refine .inr ?_
   obtain ⟨t, ht⟩ := h.inv.acy.par x e.s.f (hk x e he) h0
   rw [gt_pab] at ht
   obtain ⟨e', he', _⟩ := Option.map_eq_some_iff.1 ht
   have he2 : gt L e.s.par = some e' := he'
   rw [he2]
   rfl
 refine ⟨h.inv.acy, ?_, hp, fun x e he => ⟨?_, ?_⟩⟩
 ·have := h.inv.zero
  rw [gt_pab] at this
  exact Option.map_eq_none_iff.1 this
 ·exact h.bof.keys x (gt_some.1 (by rw [hk x e he]; rfl))
 ·rcases hp x e he with h0 | h0
  ·rw [h0]
   exact bt0
  ·exact h.bof.keys _ (by rw [pab_keys]; exact gt_some.1 h0)
theorem Fok.len {m : Nat} {L : Po} (h : Fok m (pab L)) (hm : m ≤ 900) {base : Nat} {w : World} {p q : Nat} (hP : Pf base w p q L) {x : Int} {e : Ps} (he : gt L x = some e) : e.s.pe.Len 1000 ∧ e.s.ca.Len 1000 ∧ e.s.no.Len 1000 :=
 zs_len (h.szf x e.s.f (by rw [gt_pab, he]; rfl)) (hP.rows x e he).ok hm
theorem Fok.few {m : Nat} {L : Po} (h : Fok m (pab L)) (hm : m ≤ 900) {base : Nat} {w : World} {p q : Nat} (hP : Pf base w p q L) : Few L := fun x e he => by
 obtain ⟨h1, h2, h3⟩ := h.len hm hP he
 exact ⟨len_mono h1 (by omega), len_mono h2 (by omega), len_mono h3 (by omega)⟩
theorem fsynced_one {base : Nat} {w : World} {p m : Nat} {L : Po} {es : List Addr} (hE : Fe w es) (h : Pf base w p m L) (hN : Nok L) (x : Int) (hx : Bt x) :
  Calls Tryz.prog 62 #[.pointer (some ⟨p, 0, none⟩), .int .i64 x] w fun e w' => e = .returned (.bool (sy (pab L) x)) ∧ ∃ q, w' = w.drewN q :=
 fsynced_any hE h hN.acy (fun y e he => (hN.key y e he).2) _ x hx (Nat.le_refl _) 0
structure Ka (base B : Nat) (w : World) (p m : Nat) (L : Po) (cf ca cb Tf : Nat) (fv : Value) (Ts Te sz : Nat) (vl : Value) (n : Nat) (xs : List Value) : Prop where
 pf : Pf base w p m L
 kf : Bk w cf 26 #[.pointer (some ⟨p, 0, none⟩)]
 kb : Bk w cb Tf #[fv]
 ka : Bk w ca Ts #[vl]
 row : w.ownsRow B Te sz vl n xs
 sep : ca ≠ cf ∧ ca ≠ cb
 ext : ∀ b ∈ cf :: ca :: cb :: vl.ownBlock.toList, b ≠ p ∧ b ≠ m ∧ b ∉ wbs L ∧ Ofr L b ∧ B ≤ b
 vn : ∀ b, vl.ownBlock = some b → b ≠ cf ∧ b ≠ ca ∧ b ≠ cb
 lo : base ≤ B
structure Kr (m ca : Nat) (u : World) (L : Po) (vl : Value) (w' : World) (L' : Po) (vl' : Value) : Prop where
 kp : Kp (m :: ca :: (wbs L ++ vl.ownBlock.toList)) u w'
 new : ∀ b ∈ wbs L', b ∈ wbs L ∨ u.heap.size ≤ b
 ofr : ∀ b, b < u.heap.size → Ofr L b → Ofr L' b
 vn : ∀ b, vl'.ownBlock = some b → vl.ownBlock = some b ∨ u.heap.size ≤ b
variable {base B : Nat} {w u w' : World} {p m : Nat} {L L' : Po} {F : Fo} {cf ca cb Tf : Nat} {fv : Value} {Ts Te sz : Nat} {vl vl' : Value} {n : Nat} {xs : List Value}
theorem Kr.refl (hb : Below u.heap.size u w') : Kr m ca u L vl w' L vl := ⟨kp_of_below hb _, fun _ h => .inl h, fun _ _ h => h, fun _ h => .inl h⟩
theorem Kr.trans {w2 : World} {L2 : Po} {vl2 : Value} (h : Kr m ca u L vl w' L' vl') (h' : Kr m ca w' L' vl' w2 L2 vl2) : Kr m ca u L vl w2 L2 vl2 := by
 refine ⟨h.kp.trans h'.kp (fun b hb hlt => ?_), fun b hb => ?_, fun b hb ho => h'.ofr b (Nat.lt_of_lt_of_le hb h.kp.size) (h.ofr b hb ho), fun b hb => ?_⟩
 ·simp only [List.mem_cons, List.mem_append, Option.mem_toList] at hb ⊢
  rcases hb with hb | hb | hb | hb
  ·exact .inl hb
  ·exact .inr (.inl hb)
  ·rcases h.new b hb with h1 | h1
   ·exact .inr (.inr (.inl h1))
   ·omega
  ·rcases h.vn b hb with h1 | h1
   ·exact .inr (.inr (.inr h1))
   ·omega
 ·rcases h'.new b hb with h1 | h1
  ·exact h.new b h1
  ·exact .inr (Nat.le_trans h.kp.size h1)
 ·rcases h'.vn b hb with h1 | h1
  ·exact h.vn b h1
  ·exact .inr (Nat.le_trans h.kp.size h1)
theorem Kr.pfr (h : PfR base u p m L F w' L') : Kr m ca u L vl w' L' vl :=
 ⟨h.kp.mono (fun b hb _ => by
  rcases List.mem_cons.1 hb with rfl | hb
  ·exact List.mem_cons_self
  ·exact List.mem_cons_of_mem _ (List.mem_cons_of_mem _ (List.mem_append_left _ hb))), h.new, h.ofr, fun _ h => .inl h⟩
theorem Ka.xlt (h : Ka base B w p m L cf ca cb Tf fv Ts Te sz vl n xs) : ∀ b ∈ cf :: ca :: cb :: vl.ownBlock.toList, b < w.heap.size := fun b hb => by
 simp only [List.mem_cons, Option.mem_toList] at hb
 rcases hb with rfl | rfl | rfl | hb
 ·exact h.kf.lt
 ·exact h.ka.lt
 ·exact h.kb.lt
 ·exact (h.row.lt b hb).2
theorem Ka.on (h : Ka base B w p m L cf ca cb Tf fv Ts Te sz vl n xs) (hb : Below w.heap.size w w') : Ka base B w' p m L cf ca cb Tf fv Ts Te sz vl n xs :=
 ⟨h.pf.on hb, h.kf.on hb, h.kb.on hb, h.ka.on hb, ownsRow_below h.row hb, h.sep, h.ext, h.vn, h.lo⟩
theorem Ka.pfr (h : Ka base B w p m L cf ca cb Tf fv Ts Te sz vl n xs) (hR : PfR base w p m L F w' L') : Ka base B w' p m L' cf ca cb Tf fv Ts Te sz vl n xs := by
 have hx := h.xlt
 have hno : ∀ b ∈ cf :: ca :: cb :: vl.ownBlock.toList, b ∉ m :: wbs L := fun b hb hm => by
  obtain ⟨_, h2, h3, _⟩ := h.ext b hb
  rcases List.mem_cons.1 hm with h4 | h4
  ·exact h2 h4
  ·exact h3 h4
 refine ⟨hR.pf, h.kf.kp hR.kp (hno _ (by simp)), h.kb.kp hR.kp (hno _ (by simp)), h.ka.kp hR.kp (hno _ (by simp)), hR.kp.row h.row (fun b hb => hno b (by simp [hb])), h.sep, fun b hb => ?_, h.vn, h.lo⟩
 obtain ⟨h1, h2, h3, h4, h5⟩ := h.ext b hb
 refine ⟨h1, h2, fun hm => ?_, hR.ofr b (hx b hb) h4, h5⟩
 rcases hR.new b hm with h6 | h6
 ·exact h3 h6
 ·have := hx b hb
  omega
theorem Ka.app (h : Ka base B w p m L cf ca cb Tf fv Ts Te sz vl n xs) {v3 : Value} {w3 : World} {n3 : Nat} {xs3 : List Value} (o3 : w3.ownsRow B Te sz v3 n3 xs3) (g3 : w.grownBy w3 vl.ownBlock) (a3 : v3.ownBlock = vl.ownBlock ∨ v3.ownBlock = some w.heap.size) :
  w3.cell? ⟨ca, 0, none⟩ = some vl ∧ (∀ j, w3.frozen? ⟨ca, j, none⟩ = false) ∧ ca < w3.heap.size ∧ Ka base B (w3.setCell ⟨ca, 0, none⟩ v3) p m L cf ca cb Tf fv Ts Te sz v3 n3 xs3 ∧ Kr m ca w L vl (w3.setCell ⟨ca, 0, none⟩ v3) L v3 ∧ RowKit.Below B w (w3.setCell ⟨ca, 0, none⟩ v3) := by
 have hx := h.xlt
 have hk : Kp vl.ownBlock.toList w w3 := kp_of_grown g3
 have hcn : ∀ b ∈ [cf, ca, cb], b ∉ vl.ownBlock.toList := fun b hb hm => by
  have := h.vn b (by simpa using hm)
  simp only [List.mem_cons, List.not_mem_nil, or_false] at hb
  rcases hb with rfl | rfl | rfl
  ·exact this.1 rfl
  ·exact this.2.1 rfl
  ·exact this.2.2 rfl
 have ka3 := h.ka.kp hk (hcn ca (by simp))
 have hk4 : Kp (ca :: vl.ownBlock.toList) w (w3.setCell ⟨ca, 0, none⟩ v3) := (hk.mono (fun b hb _ => List.mem_cons_of_mem _ hb)).set ⟨ca, 0, none⟩ (by simp) v3
 have hv3 : ∀ b, v3.ownBlock = some b → vl.ownBlock = some b ∨ b = w.heap.size := fun b hb => by
  rcases a3 with h1 | h1
  ·exact .inl (by rw [← h1]; exact hb)
  ·rw [h1] at hb
   cases hb
   exact .inr rfl
 have hca3 : v3.ownBlock ≠ some ca := fun e => by
  rcases hv3 ca e with h1 | h1
  ·exact (h.vn ca h1).2.1 rfl
  ·have := hx ca (by simp)
   omega
 have hmem : ∀ b ∈ ca :: vl.ownBlock.toList, b ∈ cf :: ca :: cb :: vl.ownBlock.toList := fun b hb => by
  rcases List.mem_cons.1 hb with rfl | hb
  ·simp
  ·simp [hb]
 refine ⟨ka3.cell 0, fun j => ka3.fz j, ka3.lt, ⟨?_, ?_, ?_, ?_, ownsRow_set o3 ⟨ca, 0, none⟩ hca3 v3, h.sep, fun b hb => ?_, fun b hb => ?_, h.lo⟩, ⟨hk4.mono (fun b hb _ => ?_), fun _ h => .inl h, fun _ _ h => h, fun b hb => ?_⟩, hk4.below (by have h1 := (h.ext ca (by simp)).2.2.2.2; have h2 := hx ca (by simp); omega) (fun b hb => (h.ext b (hmem b hb)).2.2.2.2)⟩
 ·refine h.pf.kept hk4 (fun hm => (h.ext p (hmem p hm)).1 rfl) (fun hm => (h.ext m (hmem m hm)).2.1 rfl) (fun x e he => ⟨fun b hb hm => (h.ext b (hmem b hm)).2.2.1 ((mem_wbs h.pf.nd).2 ⟨x, e, he, hb⟩), fun z hz b hb => (h.ext b (hmem b hb)).2.2.2.1 x e he z hz⟩)
 ·exact (h.kf.kp hk (hcn cf (by simp))).other (fun e => h.sep.1 e.symm) 0 v3
 ·exact (h.kb.kp hk (hcn cb (by simp))).other (fun e => h.sep.2 e.symm) 0 v3
 ·exact ka3.set 0 v3
 ·simp only [List.mem_cons, Option.mem_toList] at hb
  have hold : ∀ b, b ∈ cf :: ca :: cb :: vl.ownBlock.toList → b ≠ p ∧ b ≠ m ∧ b ∉ wbs L ∧ Ofr L b ∧ B ≤ b := h.ext
  rcases hb with rfl | rfl | rfl | hb
  ·exact hold _ (by simp)
  ·exact hold _ (by simp)
  ·exact hold _ (by simp)
  ·rcases hv3 b hb with h1 | h1
   ·exact hold b (by simp [h1])
   ·obtain ⟨l1, l2⟩ := h.pf.lt
    refine ⟨by omega, by omega, fun hm => ?_, fun x e he z hz => (h.pf.rows x e he).ros hz (by omega), (o3.lt b hb).1⟩
    obtain ⟨x, e, he, hb'⟩ := (mem_wbs h.pf.nd).1 hm
    have := (h.pf.wlt he hb').2
    omega
 ·rcases hv3 b hb with h1 | h1
  ·exact h.vn b h1
  ·have h2 := hx cf (by simp)
   have h3 := hx ca (by simp)
   have h4 := hx cb (by simp)
   exact ⟨by omega, by omega, by omega⟩
 ·rcases List.mem_cons.1 hb with rfl | hb
  ·simp
  ·simp [show b ∈ vl.ownBlock.toList from hb]
 ·rcases hv3 b hb with h1 | h1
  ·exact .inl h1
  ·exact .inr (by omega)
theorem Kr.bel (h : Kr m ca u L vl w' L' vl') (hK : Ka base B u p m L cf ca cb Tf fv Ts Te sz vl n xs) : Below base u w' := by
 have h1 := hK.pf.lt.1
 have h2 := hK.pf.lop
 have hlo := hK.lo
 refine h.kp.below (by omega) (fun k hk => ?_)
 simp only [List.mem_cons, List.mem_append, Option.mem_toList] at hk
 rcases hk with rfl | rfl | hk | hk
 ·exact hK.pf.lom
 ·have := (hK.ext k (by simp)).2.2.2.2
  omega
 ·obtain ⟨x, e, he, hb⟩ := (mem_wbs hK.pf.nd).1 hk
  exact (hK.pf.wlt he hb).1
 ·have := (hK.ext k (by simp [hk])).2.2.2.2
  omega
theorem Kr.rd (h : Kr m ca u L vl w' L' vl') (hK : Ka base B u p m L cf ca cb Tf fv Ts Te sz vl n xs) {x : Int} {e : Ps} (he : gt L x = some e) {z : Sl} (hz : z ∈ ros e.s) {k : Nat} (hr : RdM k u z.a z.n z.c z.l) : RdM k w' z.a z.n z.c z.l := by
 refine rd_far hr h.kp (fun b hb => ?_)
 simp only [List.mem_cons, List.mem_append, Option.mem_toList] at hb
 rcases hb with rfl | rfl | hb | hb
 ·exact (hK.pf.far x e he z hz).2
 ·exact (hK.ext b (by simp)).2.2.2.1 x e he z hz
 ·obtain ⟨y, e', he', hb'⟩ := (mem_wbs hK.pf.nd).1 hb
  by_cases hxy : y = x
  ·subst hxy
   rw [he] at he'
   cases he'
   exact ((hK.pf.sep y e he).2 b hb').2.2.2 z hz
  ·exact (hK.pf.sep2 y x e' e he' he hxy b hb').2 z hz
 ·exact (hK.ext b (by simp [hb])).2.2.2.1 x e he z hz
theorem Ka.out {w0 : World} {L0 : Po} (h0 : Pf base w0 p m L0) {u : World} (hb : Below w0.heap.size w0 u) (hK : Ka base w0.heap.size u p m L0 cf ca cb Tf fv Ts Te sz vl n xs) (h : Kr m ca u L0 vl w' L' vl') (hK' : Pf base w' p m L') (hF : pab L' = F) : PfR base w0 p m L0 F w' L' := by
 refine ⟨hK', hF, ?_, fun b hb' => ?_, fun b hlt ho => h.ofr b (Nat.lt_of_lt_of_le hlt hb.size) ho⟩
 ·refine (kp_of_below hb _).trans h.kp (fun b hb' hlt => ?_)
  simp only [List.mem_cons, List.mem_append, Option.mem_toList] at hb'
  rcases hb' with rfl | rfl | hb' | hb'
  ·exact List.mem_cons_self
  ·have := (hK.ext b (by simp)).2.2.2.2
   omega
  ·exact List.mem_cons_of_mem _ hb'
  ·have := (hK.ext b (by simp [hb'])).2.2.2.2
   omega
 ·rcases h.new b hb' with h1 | h1
  ·exact .inl h1
  ·exact .inr (Nat.le_trans hb.size h1)
theorem ka_new (h : Pf base w p m L) (hlo : base ≤ w.heap.size) {u : World} (hb : Below w.heap.size w u) (hf : Bk u w.heap.size 26 #[.pointer (some ⟨p, 0, none⟩)]) (ha : Bk u (w.heap.size + 1) Ts #[.slice none 0 0]) (hc : Bk u (w.heap.size + 2) Tf #[fv]) :
  Ka base w.heap.size u p m L w.heap.size (w.heap.size + 1) (w.heap.size + 2) Tf fv Ts Te sz (.slice none 0 0) 0 [] := by
 obtain ⟨l1, l2⟩ := h.lt
 refine ⟨h.on hb, hf, hc, ha, World.ownsRow_nil _ _ _ _, ⟨by omega, by omega⟩, fun b hb' => ?_, fun b hb' => (by cases hb'), hlo⟩
 have hge : w.heap.size ≤ b := by
  simp only [List.mem_cons, Option.mem_toList, Value.ownBlock] at hb'
  rcases hb' with rfl | rfl | rfl | hb'
  ·omega
  ·omega
  ·omega
  ·cases hb'
 refine ⟨by omega, by omega, fun hm => ?_, fun x e he z hz => (h.rows x e he).ros hz hge, hge⟩
 obtain ⟨x, e, he, hb2⟩ := (mem_wbs h.nd).1 hm
 have := (h.wlt he hb2).2
 omega
end
section
structure Fld (F : Fo) (m : Nat) (G : Fo) : Prop where
 inv : Inv G
 nof : Nof G
 szf : Szf m G
 tre : Tre F G
theorem kst_all {F : Fo} {m n : Nat} {r : Fo × List Int} (h : Fld F m r.1) (k : Int) : Fld F m (kst n r k).1 ∧ (kst n r k).2.length ≤ r.2.length + (if k = 0 then 0 else dsc F k) := by
 by_cases hk : k = 0
 ·have : kst n r k = r := by
   unfold kst
   rw [hk, h.inv.zero]
  rw [this, if_pos hk]
  exact ⟨h, by omega⟩
 ·rw [if_neg hk]
  unfold kst
  split
  ·exact ⟨h, by omega⟩
  ·rename_i c hc
   split
   ·exact ⟨h, by omega⟩
   ·split
    ·have h1 := kds_inv n r.1 k r.2 h.inv
     have h2 := kds_length n r.1 k r.2 h.inv h.nof (by rw [hc]; rfl)
     rw [← h.tre.dsc] at h2
     exact ⟨⟨h1.1, kds_nof n _ _ _ h.nof, kds_szf n _ _ _ h.szf, h.tre.trans h1.2⟩, by omega⟩
    ·have htu := tre_upd r.1 k aplS (fun _ => ⟨rfl, rfl⟩)
     have h1 := kds_inv n (upd r.1 k aplS) k (r.2 ++ [k]) (h.inv.apls k)
     have hn : Nof (upd r.1 k aplS) := h.nof.turn _ _ fun s _ hs => hs.apls
     have hz : Szf m (upd r.1 k aplS) := h.szf.turn (Nat.le_refl m) _ _ fun s hs => hs.apls
     obtain ⟨t, h3, _⟩ := htu.some hc
     have h2 := kds_length n (upd r.1 k aplS) k (r.2 ++ [k]) (h.inv.apls k) hn (by rw [h3]; rfl)
     rw [List.length_append, List.length_singleton, ← htu.dsc, ← h.tre.dsc] at h2
     exact ⟨⟨h1.1, kds_nof n _ _ _ hn, kds_szf n _ _ _ hz, (h.tre.trans htu).trans h1.2⟩, by omega⟩
theorem fld_all {F : Fo} {m n : Nat} : ∀ (K : List Int) (r : Fo × List Int), Fld F m r.1 → Fld F m (K.foldl (kst n) r).1 ∧ (K.foldl (kst n) r).2.length ≤ r.2.length + ((K.filter fun k => k != 0).map (dsc F)).sum := fun K => by
 induction K with
 | nil => exact fun r h => ⟨h, Nat.le_refl _⟩
 | cons k K ih =>
  intro r h
  rw [List.foldl_cons]
  obtain ⟨h1, h2⟩ := kst_all (n := n) h k
  obtain ⟨h3, h4⟩ := ih _ h1
  refine ⟨h3, ?_⟩
  rw [List.filter_cons]
  by_cases hk : k = 0
  ·rw [if_neg (by simpa using hk)]
   rw [if_pos hk] at h2
   omega
  ·rw [if_pos (by simpa using hk), List.map_cons, List.sum_cons]
   rw [if_neg hk] at h2
   omega
theorem sum_take_le (l : List Int) (f : Int → Nat) (j : Nat) : (((l.take j).filter fun k => k != 0).map f).sum ≤ ((l.filter fun k => k != 0).map f).sum := by
 have : l.filter (fun k => k != 0) = (l.take j).filter (fun k => k != 0) ++ (l.drop j).filter (fun k => k != 0) := by rw [← List.filter_append, List.take_append_drop]
 rw [this, List.map_append, List.sum_append]
 omega
theorem fld_len {F : Fo} {m n : Nat} (hI : Inv F) (hN : Nof F) (hZ : Szf m F) {x : Int} {s : Sf} (hs : gt F x = some s) (acc : List Int) (j : Nat) : Fld F m (((un1 s.no.od).take j).foldl (kst n) (F, acc)).1 ∧ (((un1 s.no.od).take j).foldl (kst n) (F, acc)).2.length ≤ acc.length + 40 := by
 obtain ⟨h1, h2⟩ := fld_all (F := F) (m := m) (n := n) ((un1 s.no.od).take j) (F, acc) ⟨hI, hN, hZ, Tre.refl F⟩
 refine ⟨h1, ?_⟩
 have h3 := sum_take_le (un1 s.no.od) (dsc F) j
 have h4 := kids_dsc hI.acy hs (nodup_filter_ne (hN x s hs).no) (kid_mem hI hs)
 have h5 := dsc_le F x
 have h6 := hI.len
 dsimp only at h2
 omega
theorem fold_take {α : Type} {l : List Int} {j : Nat} {k : Int} (h : l[j]? = some k) (f : α → Int → α) (r : α) : (l.take (j + 1)).foldl f r = f ((l.take j).foldl f r) k := by
 rw [List.take_add_one, h, List.foldl_append]
 rfl
end
end Go.Proofs.YtkjempffidndeaaGreatDoor
