/- The program's forest: a surface's apply, and what a commit does first. Written by forest/mk_pfo.py. -/
import Derived.Test.YtdgknofpkafppaaDoorBf
import Derived.Test.YtdgknofpkafppaaDoorBc
import Derived.Test.YtdgknofpkafppaaDoorBd
import Derived.Laws.EntriesVeiled
import Derived.Shelf.SlIterI.Nil
import Derived.Shelf.SortM.Plain
import Derived.Shelf.SortM.SortNone
import Derived.Shelf.SlicesG.CompactI
import Derived.Test.YtdgknofpkafppaaDoorProg
namespace Go.Proofs.YtdgknofpkafppaaDoor
open Go Go.RowKit

variable {base : Nat} {w0 w w' : World} {p m : Nat} {L L' : Po} {F : Fo} {id : Int} {es : List Addr} {e : Ps}
theorem Bk.stl {u : World} {g T : Nat} : ∀ (vs : List Value) (o : Nat) (cs : List Value), Bk u g T cs.toArray → Bk (stl u g o vs) g T (setl cs o vs).toArray := fun vs => by
  induction vs generalizing u with
  | nil => exact fun o cs h => h
  | cons x vs ih =>
    intro o cs h
    have := h.set o x
    simp only [List.setIfInBounds_toArray] at this
    exact ih (o + 1) (cs.set o x) this
theorem pcs_no (s : Sr) (r : Sx) : setl (pcs s) 20 (sxc r) = pcs { s with no := r } := rfl
theorem pcs_ca (s : Sr) (r : Sx) : setl (pcs s) 10 (sxc r) = pcs { s with ca := r } := rfl
theorem pcs_pe (s : Sr) (r : Sx) : setl (pcs s) 0 (sxc r) = pcs { s with pe := r } := rfl
theorem Bk.no {u : World} {g T : Nat} {s : Sr} (h : Bk u g T (pcs s).toArray) (r : Sx) : Bk (sto u g 20 r) g T (pcs { s with no := r }).toArray := by
  have := Bk.stl (sxc r) 20 (pcs s) h
  rw [pcs_no] at this
  exact this
theorem Bk.ca {u : World} {g T : Nat} {s : Sr} (h : Bk u g T (pcs s).toArray) (r : Sx) : Bk (sto u g 10 r) g T (pcs { s with ca := r }).toArray := by
  have := Bk.stl (sxc r) 10 (pcs s) h
  rw [pcs_ca] at this
  exact this
theorem Bk.pe {u : World} {g T : Nat} {s : Sr} (h : Bk u g T (pcs s).toArray) (r : Sx) : Bk (sto u g 0 r) g T (pcs { s with pe := r }).toArray := by
  have := Bk.stl (sxc r) 0 (pcs s) h
  rw [pcs_pe] at this
  exact this
theorem kp_sto (u : World) (g o : Nat) (r : Sx) : Kp [g] u (sto u g o r) := kp_stl u g o (sxc r)
/-- The cells of one of the three. -/
theorem Pf.cells (h : Pf base w p m L) (he : gt L id = some e) : (w.cell? ⟨e.g, 0, none⟩ = some (.bool e.s.pe.at_) ∧ w.cell? ⟨e.g, 1, none⟩ = some (.int .i64 e.s.pe.buf) ∧ w.cell? ⟨e.g, 2, none⟩ = some (.slice e.s.pe.dm.a e.s.pe.dm.n e.s.pe.dm.c) ∧ w.cell? ⟨e.g, 3, none⟩ = some (.slice e.s.pe.fr.a e.s.pe.fr.n e.s.pe.fr.c) ∧ w.cell? ⟨e.g, 4, none⟩ = some (.bool e.s.pe.inp) ∧ w.cell? ⟨e.g, 5, none⟩ = some (.bool e.s.pe.all) ∧ w.cell? ⟨e.g, 6, none⟩ = some (.slice e.s.pe.rg.a e.s.pe.rg.n e.s.pe.rg.c) ∧ w.cell? ⟨e.g, 7, none⟩ = some (.bool e.s.pe.ord) ∧ w.cell? ⟨e.g, 8, none⟩ = some (.slice e.s.pe.od.a e.s.pe.od.n e.s.pe.od.c) ∧ w.cell? ⟨e.g, 9, none⟩ = some (.slice e.s.pe.pl.a e.s.pe.pl.n e.s.pe.pl.c)) ∧ (w.cell? ⟨e.g, 10, none⟩ = some (.bool e.s.ca.at_) ∧ w.cell? ⟨e.g, 11, none⟩ = some (.int .i64 e.s.ca.buf) ∧ w.cell? ⟨e.g, 12, none⟩ = some (.slice e.s.ca.dm.a e.s.ca.dm.n e.s.ca.dm.c) ∧ w.cell? ⟨e.g, 13, none⟩ = some (.slice e.s.ca.fr.a e.s.ca.fr.n e.s.ca.fr.c) ∧ w.cell? ⟨e.g, 14, none⟩ = some (.bool e.s.ca.inp) ∧ w.cell? ⟨e.g, 15, none⟩ = some (.bool e.s.ca.all) ∧ w.cell? ⟨e.g, 16, none⟩ = some (.slice e.s.ca.rg.a e.s.ca.rg.n e.s.ca.rg.c) ∧ w.cell? ⟨e.g, 17, none⟩ = some (.bool e.s.ca.ord) ∧ w.cell? ⟨e.g, 18, none⟩ = some (.slice e.s.ca.od.a e.s.ca.od.n e.s.ca.od.c) ∧ w.cell? ⟨e.g, 19, none⟩ = some (.slice e.s.ca.pl.a e.s.ca.pl.n e.s.ca.pl.c)) ∧ (w.cell? ⟨e.g, 20, none⟩ = some (.bool e.s.no.at_) ∧ w.cell? ⟨e.g, 21, none⟩ = some (.int .i64 e.s.no.buf) ∧ w.cell? ⟨e.g, 22, none⟩ = some (.slice e.s.no.dm.a e.s.no.dm.n e.s.no.dm.c) ∧ w.cell? ⟨e.g, 23, none⟩ = some (.slice e.s.no.fr.a e.s.no.fr.n e.s.no.fr.c) ∧ w.cell? ⟨e.g, 24, none⟩ = some (.bool e.s.no.inp) ∧ w.cell? ⟨e.g, 25, none⟩ = some (.bool e.s.no.all) ∧ w.cell? ⟨e.g, 26, none⟩ = some (.slice e.s.no.rg.a e.s.no.rg.n e.s.no.rg.c) ∧ w.cell? ⟨e.g, 27, none⟩ = some (.bool e.s.no.ord) ∧ w.cell? ⟨e.g, 28, none⟩ = some (.slice e.s.no.od.a e.s.no.od.n e.s.no.od.c) ∧ w.cell? ⟨e.g, 29, none⟩ = some (.slice e.s.no.pl.a e.s.no.pl.n e.s.no.pl.c)) :=
  ⟨⟨h.cell he, h.cell he, h.cell he, h.cell he, h.cell he, h.cell he, h.cell he, h.cell he, h.cell he, h.cell he⟩, ⟨h.cell he, h.cell he, h.cell he, h.cell he, h.cell he, h.cell he, h.cell he, h.cell he, h.cell he, h.cell he⟩, ⟨h.cell he, h.cell he, h.cell he, h.cell he, h.cell he, h.cell he, h.cell he, h.cell he, h.cell he, h.cell he⟩⟩

set_option maxRecDepth 100000 in
set_option maxHeartbeats 2000000 in
theorem fapply_any (h : Pf base w p m L) (he : gt L id = some e) (l2 : e.s.ca.Len 1000) (l3 : e.s.no.Len 1000) :
    Calls Tryd.prog 37 #[.pointer (some ⟨e.g, 0, none⟩)] w fun e' w' => e' = .returned undef ∧ ∃ r : Sx, r.q = apl e.s.no.q e.s.ca.q ∧ PfR base w p m L (upd (pab L) id aplS) w' (st L id ⟨e.g, { e.s with no := r, ca := sx0 }⟩) := by
  have HC : Hid (∀ W : World, Below w.heap.size w W → (W.cell? ⟨e.g, 10, none⟩ = some (.bool e.s.ca.at_) ∧ W.cell? ⟨e.g, 11, none⟩ = some (.int .i64 e.s.ca.buf) ∧ W.cell? ⟨e.g, 12, none⟩ = some (.slice e.s.ca.dm.a e.s.ca.dm.n e.s.ca.dm.c) ∧ W.cell? ⟨e.g, 13, none⟩ = some (.slice e.s.ca.fr.a e.s.ca.fr.n e.s.ca.fr.c) ∧ W.cell? ⟨e.g, 14, none⟩ = some (.bool e.s.ca.inp) ∧ W.cell? ⟨e.g, 15, none⟩ = some (.bool e.s.ca.all) ∧ W.cell? ⟨e.g, 16, none⟩ = some (.slice e.s.ca.rg.a e.s.ca.rg.n e.s.ca.rg.c) ∧ W.cell? ⟨e.g, 17, none⟩ = some (.bool e.s.ca.ord) ∧ W.cell? ⟨e.g, 18, none⟩ = some (.slice e.s.ca.od.a e.s.ca.od.n e.s.ca.od.c) ∧ W.cell? ⟨e.g, 19, none⟩ = some (.slice e.s.ca.pl.a e.s.ca.pl.n e.s.ca.pl.c)) ∧ (W.cell? ⟨e.g, 20, none⟩ = some (.bool e.s.no.at_) ∧ W.cell? ⟨e.g, 21, none⟩ = some (.int .i64 e.s.no.buf) ∧ W.cell? ⟨e.g, 22, none⟩ = some (.slice e.s.no.dm.a e.s.no.dm.n e.s.no.dm.c) ∧ W.cell? ⟨e.g, 23, none⟩ = some (.slice e.s.no.fr.a e.s.no.fr.n e.s.no.fr.c) ∧ W.cell? ⟨e.g, 24, none⟩ = some (.bool e.s.no.inp) ∧ W.cell? ⟨e.g, 25, none⟩ = some (.bool e.s.no.all) ∧ W.cell? ⟨e.g, 26, none⟩ = some (.slice e.s.no.rg.a e.s.no.rg.n e.s.no.rg.c) ∧ W.cell? ⟨e.g, 27, none⟩ = some (.bool e.s.no.ord) ∧ W.cell? ⟨e.g, 28, none⟩ = some (.slice e.s.no.od.a e.s.no.od.n e.s.no.od.c) ∧ W.cell? ⟨e.g, 29, none⟩ = some (.slice e.s.no.pl.a e.s.no.pl.n e.s.no.pl.c)) ∧ e.g < W.heap.size ∧ (∀ j, W.frozen? ⟨e.g, j, none⟩ = false) ∧ e.s.no.Ok W ∧ e.s.ca.Ok W) := fun W hW => by
    have h1 := h.on hW
    exact ⟨(h1.cells he).2.1, (h1.cells he).2.2, (h1.wlt he (mem_wb.2 (.inl rfl))).2, h1.fz he, (h1.rows id e he).ok.no, (h1.rows id e he).ok.ca⟩
  have HFIN : Hid (∀ (W W1 : World) (r : Sx), Below w.heap.size w W → Below W.heap.size W W1 → r.Ok W1 → r.New W.heap.size → r.q = apl e.s.no.q e.s.ca.q → W1.ownsRow W.heap.size 46 3 (.slice r.pl.a r.pl.n r.pl.c) r.pl.n (mcs r.pl.l) → r.Plf → r.q = apl e.s.no.q e.s.ca.q ∧ PfR base w p m L (upd (pab L) id aplS) (sto (sto W1 e.g 20 r) e.g 10 sx0) (st L id ⟨e.g, { e.s with no := r, ca := sx0 }⟩)) := fun W W1 r hb hb1 ok nw hq ho hp => by
    have hb2 := Below.on hb hb1
    have hB := ((h.on hb2).bk he)
    exact ⟨hq, h.putAp he hb2 r ok (nw.low hb.size) (ownsRow_low ho hb.size) hp ((kp_sto _ _ _ _).trans (kp_sto _ _ _ _) (fun k hk _ => hk)) ((hB.no r).ca sx0) hq⟩
  have HL2 := hid l2
  have HL3 := hid l3
  clear h he l2 l3
  go_enter Tryd.func37, Tryd.ntmps37
  go_upto_region 0 with fail
  refine wp_region_gate_drew (g := 14) (S := RowKit.Below w.heap.size w) (by kernel_rfl) ?hh (fun hHeld => ?_)
  case hh => exact ((Below.refl _ _).drew)
  generalize w.drew = W0 at hHeld ⊢
  try dsimp only at hHeld
  refine wpAnyG_take (i := 0) (v := ?_) rfl (by kernel_rfl) (by kernel_rfl) (by kernel_rfl) (by kernel_rfl) (fun _ _ _ h => h) (Or.inl ⟨by kernel_rfl, ?hy0⟩) (by assumption) ?_
  case hy0 => (intro wI hSw; (try dsimp only at hSw); obtain ⟨⟨a0, a1, a2, a3, a4, a5, a6, a7, a8, a9⟩, ⟨b0, b1, b2, b3, b4, b5, b6, b7, b8, b9⟩, t1, t2, -, -⟩ := HC.out _ hSw; go_simp; try with_reducible rfl)
  try simp only [Act.put, List.getElem_toArray, List.getElem_cons_zero, List.setIfInBounds_toArray, List.set_cons_zero, List.set_cons_succ]
  refine wpAnyG_takeFree (i := 1) (v := ?_) rfl (by kernel_rfl) (by kernel_rfl) (by kernel_rfl) (by kernel_rfl) (fun _ _ _ h => h) (Or.inl ⟨by kernel_rfl, ?hy1⟩) (by assumption) ?_
  case hy1 => (intro wI _; go_simp; try with_reducible rfl)
  try simp only [Act.put, List.getElem_toArray, List.getElem_cons_zero, List.getElem_cons_succ, List.setIfInBounds_toArray, List.set_cons_zero, List.set_cons_succ]
  refine wpAnyG_take (i := 2) (v := ?_) rfl (by kernel_rfl) (by kernel_rfl) (by kernel_rfl) (by kernel_rfl) (fun _ _ _ h => h) (Or.inl ⟨by kernel_rfl, ?hy2⟩) (by assumption) ?_
  case hy2 => (intro wI hSw; (try dsimp only at hSw); obtain ⟨⟨a0, a1, a2, a3, a4, a5, a6, a7, a8, a9⟩, ⟨b0, b1, b2, b3, b4, b5, b6, b7, b8, b9⟩, t1, t2, -, -⟩ := HC.out _ hSw; go_simp; try with_reducible rfl)
  try simp only [Act.put, List.getElem_toArray, List.getElem_cons_zero, List.getElem_cons_succ, List.setIfInBounds_toArray, List.set_cons_zero, List.set_cons_succ]
  refine wpAnyG_take (i := 3) (v := ?_) rfl (by kernel_rfl) (by kernel_rfl) (by kernel_rfl) (by kernel_rfl) (fun _ _ _ h => h) (Or.inl ⟨by kernel_rfl, ?hy3⟩) (by assumption) ?_
  case hy3 => (intro wI hSw; (try dsimp only at hSw); obtain ⟨⟨a0, a1, a2, a3, a4, a5, a6, a7, a8, a9⟩, ⟨b0, b1, b2, b3, b4, b5, b6, b7, b8, b9⟩, t1, t2, -, -⟩ := HC.out _ hSw; go_simp; try with_reducible rfl)
  try simp only [Act.put, List.getElem_toArray, List.getElem_cons_zero, List.getElem_cons_succ, List.setIfInBounds_toArray, List.set_cons_zero, List.set_cons_succ]
  refine wpAnyG_take (i := 4) (v := ?_) rfl (by kernel_rfl) (by kernel_rfl) (by kernel_rfl) (by kernel_rfl) (fun _ _ _ h => h) (Or.inl ⟨by kernel_rfl, ?hy4⟩) (by assumption) ?_
  case hy4 => (intro wI hSw; (try dsimp only at hSw); obtain ⟨⟨a0, a1, a2, a3, a4, a5, a6, a7, a8, a9⟩, ⟨b0, b1, b2, b3, b4, b5, b6, b7, b8, b9⟩, t1, t2, -, -⟩ := HC.out _ hSw; go_simp; try with_reducible rfl)
  try simp only [Act.put, List.getElem_toArray, List.getElem_cons_zero, List.getElem_cons_succ, List.setIfInBounds_toArray, List.set_cons_zero, List.set_cons_succ]
  refine wpAnyG_take (i := 5) (v := ?_) rfl (by kernel_rfl) (by kernel_rfl) (by kernel_rfl) (by kernel_rfl) (fun _ _ _ h => h) (Or.inl ⟨by kernel_rfl, ?hy5⟩) (by assumption) ?_
  case hy5 => (intro wI hSw; (try dsimp only at hSw); obtain ⟨⟨a0, a1, a2, a3, a4, a5, a6, a7, a8, a9⟩, ⟨b0, b1, b2, b3, b4, b5, b6, b7, b8, b9⟩, t1, t2, -, -⟩ := HC.out _ hSw; go_simp; try with_reducible rfl)
  try simp only [Act.put, List.getElem_toArray, List.getElem_cons_zero, List.getElem_cons_succ, List.setIfInBounds_toArray, List.set_cons_zero, List.set_cons_succ]
  refine wpAnyG_take (i := 6) (v := ?_) rfl (by kernel_rfl) (by kernel_rfl) (by kernel_rfl) (by kernel_rfl) (fun _ _ _ h => h) (Or.inl ⟨by kernel_rfl, ?hy6⟩) (by assumption) ?_
  case hy6 => (intro wI hSw; (try dsimp only at hSw); obtain ⟨⟨a0, a1, a2, a3, a4, a5, a6, a7, a8, a9⟩, ⟨b0, b1, b2, b3, b4, b5, b6, b7, b8, b9⟩, t1, t2, -, -⟩ := HC.out _ hSw; go_simp; try with_reducible rfl)
  try simp only [Act.put, List.getElem_toArray, List.getElem_cons_zero, List.getElem_cons_succ, List.setIfInBounds_toArray, List.set_cons_zero, List.set_cons_succ]
  refine wpAnyG_take (i := 7) (v := ?_) rfl (by kernel_rfl) (by kernel_rfl) (by kernel_rfl) (by kernel_rfl) (fun _ _ _ h => h) (Or.inl ⟨by kernel_rfl, ?hy7⟩) (by assumption) ?_
  case hy7 => (intro wI hSw; (try dsimp only at hSw); obtain ⟨⟨a0, a1, a2, a3, a4, a5, a6, a7, a8, a9⟩, ⟨b0, b1, b2, b3, b4, b5, b6, b7, b8, b9⟩, t1, t2, -, -⟩ := HC.out _ hSw; go_simp; try with_reducible rfl)
  try simp only [Act.put, List.getElem_toArray, List.getElem_cons_zero, List.getElem_cons_succ, List.setIfInBounds_toArray, List.set_cons_zero, List.set_cons_succ]
  refine wpAnyG_take (i := 8) (v := ?_) rfl (by kernel_rfl) (by kernel_rfl) (by kernel_rfl) (by kernel_rfl) (fun _ _ _ h => h) (Or.inl ⟨by kernel_rfl, ?hy8⟩) (by assumption) ?_
  case hy8 => (intro wI hSw; (try dsimp only at hSw); obtain ⟨⟨a0, a1, a2, a3, a4, a5, a6, a7, a8, a9⟩, ⟨b0, b1, b2, b3, b4, b5, b6, b7, b8, b9⟩, t1, t2, -, -⟩ := HC.out _ hSw; go_simp; try with_reducible rfl)
  try simp only [Act.put, List.getElem_toArray, List.getElem_cons_zero, List.getElem_cons_succ, List.setIfInBounds_toArray, List.set_cons_zero, List.set_cons_succ]
  refine wpAnyG_take (i := 9) (v := ?_) rfl (by kernel_rfl) (by kernel_rfl) (by kernel_rfl) (by kernel_rfl) (fun _ _ _ h => h) (Or.inl ⟨by kernel_rfl, ?hy9⟩) (by assumption) ?_
  case hy9 => (intro wI hSw; (try dsimp only at hSw); obtain ⟨⟨a0, a1, a2, a3, a4, a5, a6, a7, a8, a9⟩, ⟨b0, b1, b2, b3, b4, b5, b6, b7, b8, b9⟩, t1, t2, -, -⟩ := HC.out _ hSw; go_simp; try with_reducible rfl)
  try simp only [Act.put, List.getElem_toArray, List.getElem_cons_zero, List.getElem_cons_succ, List.setIfInBounds_toArray, List.set_cons_zero, List.set_cons_succ]
  refine wpAnyG_takeFree (i := 11) (v := ?_) rfl (by kernel_rfl) (by kernel_rfl) (by kernel_rfl) (by kernel_rfl) (fun _ _ _ h => h) (Or.inl ⟨by kernel_rfl, ?hy11⟩) (by assumption) ?_
  case hy11 => (intro wI _; go_simp; try with_reducible rfl)
  try simp only [Act.put, List.getElem_toArray, List.getElem_cons_zero, List.getElem_cons_succ, List.setIfInBounds_toArray, List.set_cons_zero, List.set_cons_succ]
  refine wpAnyG_ready (rs := [10]) (by kernel_rfl) (by simp) ?_
  refine AllReadyG.cons rfl (fun K hK => ?_) AllReadyG.nil
  go_simp
  go_wp2_with fail
  refine (applyo_any e.s.no e.s.ca _ (HC.out _ hHeld).2.2.2.2.1 (HC.out _ hHeld).2.2.2.2.2 HL3.out HL2.out).mono ?_
  rintro e' W10 ⟨r, rfl, okr, nwr, hqr, hbr, owr, plr⟩
  have HX := hid (HFIN.out _ _ r hHeld hbr okr nwr hqr owr plr)
  have hH2 := Below.on hHeld hbr
  refine hK.out _ _ hH2 (fun _ => ?_)
  clear hK K hHeld okr nwr hqr owr plr hbr
  have hHeld := hH2
  clear hH2
  try simp only [Act.put, List.getElem_toArray, List.getElem_cons_zero, List.getElem_cons_succ, List.setIfInBounds_toArray, List.set_cons_zero, List.set_cons_succ]
  refine wpAnyG_take (i := 12) (v := ?_) rfl (by kernel_rfl) (by kernel_rfl) (by kernel_rfl) (by kernel_rfl) (fun _ _ _ h => h) (Or.inl ⟨by kernel_rfl, ?hy12⟩) (by assumption) ?_
  case hy12 => (intro wI hSw; (try dsimp only at hSw); obtain ⟨⟨a0, a1, a2, a3, a4, a5, a6, a7, a8, a9⟩, ⟨b0, b1, b2, b3, b4, b5, b6, b7, b8, b9⟩, t1, t2, -, -⟩ := HC.out _ hSw; go_simp; try with_reducible rfl)
  try simp only [Act.put, List.getElem_toArray, List.getElem_cons_zero, List.getElem_cons_succ, List.setIfInBounds_toArray, List.set_cons_zero, List.set_cons_succ]
  refine wpAnyG_take (i := 13) (v := ?_) rfl (by kernel_rfl) (by kernel_rfl) (by kernel_rfl) (by kernel_rfl) (fun _ _ _ h => h) (Or.inl ⟨by kernel_rfl, ?hy13⟩) (by assumption) ?_
  case hy13 => (intro wI hSw; (try dsimp only at hSw); obtain ⟨⟨a0, a1, a2, a3, a4, a5, a6, a7, a8, a9⟩, ⟨b0, b1, b2, b3, b4, b5, b6, b7, b8, b9⟩, t1, t2, -, -⟩ := HC.out _ hSw; go_simp; try with_reducible rfl)
  try simp only [Act.put, List.getElem_toArray, List.getElem_cons_zero, List.getElem_cons_succ, List.setIfInBounds_toArray, List.set_cons_zero, List.set_cons_succ]
  have hG := hHeld
  clear hHeld
  have hHeld : True := trivial
  refine wpAnyG_gateOp rfl (by kernel_rfl) (fun K hK => ?_)
  obtain ⟨⟨a0, a1, a2, a3, a4, a5, a6, a7, a8, a9⟩, ⟨b0, b1, b2, b3, b4, b5, b6, b7, b8, b9⟩, t1, t2, -, -⟩ := HC.out _ hG
  clear hG
  go_simp
  refine hK.out _ _ trivial (fun _ => ?_)
  clear hK K
  try simp only [Act.put, List.getElem_toArray, List.getElem_cons_zero, List.getElem_cons_succ, List.setIfInBounds_toArray, List.set_cons_zero, List.set_cons_succ]
  refine wpAnyH_take (i := 15) (v := ?_) rfl (by kernel_rfl) (by kernel_rfl) (by kernel_rfl) (fun _ _ _ h => h) (Or.inl ⟨by kernel_rfl, ?hy15⟩) (by assumption) ?_
  case hy15 => (intro wI hSw; (try dsimp only at hSw); go_simp; try with_reducible rfl)
  try simp only [Act.put, List.getElem_toArray, List.getElem_cons_zero, List.getElem_cons_succ, List.setIfInBounds_toArray, List.set_cons_zero, List.set_cons_succ]
  refine wpAnyH_take (i := 16) (v := ?_) rfl (by kernel_rfl) (by kernel_rfl) (by kernel_rfl) (fun _ _ _ h => h) (Or.inl ⟨by kernel_rfl, ?hy16⟩) (by assumption) ?_
  case hy16 => (intro wI hSw; (try dsimp only at hSw); go_simp; try with_reducible rfl)
  try simp only [Act.put, List.getElem_toArray, List.getElem_cons_zero, List.getElem_cons_succ, List.setIfInBounds_toArray, List.set_cons_zero, List.set_cons_succ]
  refine wpAnyH_ready (rs := [17]) (by kernel_rfl) (by simp) ?_
  refine AllReadyH.cons rfl (fun K hK => ?_) AllReadyH.nil
  go_simp
  refine hK.out _ _ trivial (fun _ => ?_)
  clear hK K
  try simp only [Act.put, List.getElem_toArray, List.getElem_cons_zero, List.getElem_cons_succ, List.setIfInBounds_toArray, List.set_cons_zero, List.set_cons_succ]
  refine wpAnyH_done (by kernel_rfl) ?_ _
  go_wp2_with fail
  go_end0
  exact ⟨rfl, r, HX.out⟩

/-- What Commit's first region leaves. -/
theorem Pf.com1 (h : Pf base w p m L) (he : gt L id = some e) {W W1 : World} {r : Sx} (hb : Below w.heap.size w W) (hb1 : Below W.heap.size W W1) (ok : r.Ok W1) (nw : r.New W.heap.size) (hq : r.q = mrg e.s.ca.q e.s.pe.q) (ho : W1.ownsRow W.heap.size 46 3 (.slice r.pl.a r.pl.n r.pl.c) r.pl.n (mcs r.pl.l)) (hp : r.Plf) :
    PfR base w p m L (upd (pab L) id cacS) (sto (sto W1 e.g 10 r) e.g 0 sx0) (st L id ⟨e.g, { e.s with ca := r, pe := sx0 }⟩) := by
  have hb2 := Below.on hb hb1
  have hB := ((h.on hb2).bk he)
  exact h.putCm he hb2 r ok (nw.low hb.size) (ownsRow_low ho hb.size) hp ((kp_sto _ _ _ _).trans (kp_sto _ _ _ _) (fun k hk _ => hk)) ((hB.ca r).pe sx0) hq
end Go.Proofs.YtdgknofpkafppaaDoor

/- The program's forest: what a closure that goes through it keeps: its variables, a row of its own. -/
namespace Go.Proofs.YtdgknofpkafppaaDoor
open Go Go.RowKit

theorem Fok.nok {m : Nat} {L : Po} (h : Fok m (pab L)) : Nok L := by
  have hk : ∀ x e, gt L x = some e → gt (pab L) x = some e.s.f := fun x e he => by rw [gt_pab, he]; rfl
  have hp : ∀ x e, gt L x = some e → e.s.par = 0 ∨ (gt L e.s.par).isSome = true := fun x e he => by
    by_cases h0 : e.s.par = 0
    · exact .inl h0
    · refine .inr ?_
      obtain ⟨t, ht⟩ := h.inv.acy.par x e.s.f (hk x e he) h0
      rw [gt_pab] at ht
      obtain ⟨e', he', _⟩ := Option.map_eq_some_iff.1 ht
      have he2 : gt L e.s.par = some e' := he'
      rw [he2]
      rfl
  refine ⟨h.inv.acy, ?_, hp, fun x e he => ⟨?_, ?_⟩⟩
  · have := h.inv.zero
    rw [gt_pab] at this
    exact Option.map_eq_none_iff.1 this
  · exact h.bof.keys x (gt_some.1 (by rw [hk x e he]; rfl))
  · rcases hp x e he with h0 | h0
    · rw [h0]
      exact bt0
    · exact h.bof.keys _ (by rw [pab_keys]; exact gt_some.1 h0)
theorem Fok.len {m : Nat} {L : Po} (h : Fok m (pab L)) (hm : m ≤ 900) {base : Nat} {w : World} {p q : Nat} (hP : Pf base w p q L) {x : Int} {e : Ps} (he : gt L x = some e) : e.s.pe.Len 1000 ∧ e.s.ca.Len 1000 ∧ e.s.no.Len 1000 :=
  zs_len (h.szf x e.s.f (by rw [gt_pab, he]; rfl)) (hP.rows x e he).ok hm
theorem Fok.few {m : Nat} {L : Po} (h : Fok m (pab L)) (hm : m ≤ 900) {base : Nat} {w : World} {p q : Nat} (hP : Pf base w p q L) : Few L := fun x e he => by
  obtain ⟨h1, h2, h3⟩ := h.len hm hP he
  exact ⟨len_mono h1 (by omega), len_mono h2 (by omega), len_mono h3 (by omega)⟩
theorem fsynced_one {base : Nat} {w : World} {p m : Nat} {L : Po} {es : List Addr} (hE : Fe w es) (h : Pf base w p m L) (hN : Nok L) (x : Int) (hx : Bt x) :
    Calls Tryd.prog 16 #[.pointer (some ⟨p, 0, none⟩), .int .i64 x] w fun e w' => e = .returned (.bool (sy (pab L) x)) ∧ ∃ q, w' = w.drewN q :=
  fsynced_any hE h hN.acy (fun y e he => (hN.key y e he).2) _ x hx (Nat.le_refl _) 0

/-- A closure's variables: the forest's pointer in cf, a slice in ca, the closure itself in cb; the slice vl reads xs and is its own. -/
structure Ka (base B : Nat) (w : World) (p m : Nat) (L : Po) (cf ca cb Tf : Nat) (fv : Value) (Ts Te sz : Nat) (vl : Value) (n : Nat) (xs : List Value) : Prop where
  pf : Pf base w p m L
  kf : Bk w cf 24 #[.pointer (some ⟨p, 0, none⟩)]
  kb : Bk w cb Tf #[fv]
  ka : Bk w ca Ts #[vl]
  row : w.ownsRow B Te sz vl n xs
  sep : ca ≠ cf ∧ ca ≠ cb
  ext : ∀ b ∈ cf :: ca :: cb :: vl.ownBlock.toList, b ≠ p ∧ b ≠ m ∧ b ∉ wbs L ∧ Ofr L b ∧ B ≤ b
  vn : ∀ b, vl.ownBlock = some b → b ≠ cf ∧ b ≠ ca ∧ b ≠ cb
  lo : base ≤ B
/-- What may have turned. -/
structure Kr (m ca : Nat) (u : World) (L : Po) (vl : Value) (w' : World) (L' : Po) (vl' : Value) : Prop where
  kp : Kp (m :: ca :: (wbs L ++ vl.ownBlock.toList)) u w'
  new : ∀ b ∈ wbs L', b ∈ wbs L ∨ u.heap.size ≤ b
  ofr : ∀ b, b < u.heap.size → Ofr L b → Ofr L' b
  vn : ∀ b, vl'.ownBlock = some b → vl.ownBlock = some b ∨ u.heap.size ≤ b

variable {base B : Nat} {w u w' : World} {p m : Nat} {L L' : Po} {F : Fo} {cf ca cb Tf : Nat} {fv : Value} {Ts Te sz : Nat} {vl vl' : Value} {n : Nat} {xs : List Value}
theorem Kr.refl (hb : Below u.heap.size u w') : Kr m ca u L vl w' L vl := ⟨kp_of_below hb _, fun _ h => .inl h, fun _ _ h => h, fun _ h => .inl h⟩
theorem Kr.trans {w2 : World} {L2 : Po} {vl2 : Value} (h : Kr m ca u L vl w' L' vl') (h' : Kr m ca w' L' vl' w2 L2 vl2) : Kr m ca u L vl w2 L2 vl2 := by
  refine ⟨h.kp.trans h'.kp (fun b hb hlt => ?_), fun b hb => ?_, fun b hb ho => h'.ofr b (Nat.lt_of_lt_of_le hb h.kp.size) (h.ofr b hb ho), fun b hb => ?_⟩
  · simp only [List.mem_cons, List.mem_append, Option.mem_toList] at hb ⊢
    rcases hb with hb | hb | hb | hb
    · exact .inl hb
    · exact .inr (.inl hb)
    · rcases h.new b hb with h1 | h1
      · exact .inr (.inr (.inl h1))
      · omega
    · rcases h.vn b hb with h1 | h1
      · exact .inr (.inr (.inr h1))
      · omega
  · rcases h'.new b hb with h1 | h1
    · exact h.new b h1
    · exact .inr (Nat.le_trans h.kp.size h1)
  · rcases h'.vn b hb with h1 | h1
    · exact h.vn b h1
    · exact .inr (Nat.le_trans h.kp.size h1)
theorem Kr.pfr (h : PfR base u p m L F w' L') : Kr m ca u L vl w' L' vl :=
  ⟨h.kp.mono (fun b hb _ => by
    rcases List.mem_cons.1 hb with rfl | hb
    · exact List.mem_cons_self
    · exact List.mem_cons_of_mem _ (List.mem_cons_of_mem _ (List.mem_append_left _ hb))), h.new, h.ofr, fun _ h => .inl h⟩
theorem Ka.xlt (h : Ka base B w p m L cf ca cb Tf fv Ts Te sz vl n xs) : ∀ b ∈ cf :: ca :: cb :: vl.ownBlock.toList, b < w.heap.size := fun b hb => by
  simp only [List.mem_cons, Option.mem_toList] at hb
  rcases hb with rfl | rfl | rfl | hb
  · exact h.kf.lt
  · exact h.ka.lt
  · exact h.kb.lt
  · exact (h.row.lt b hb).2
theorem Ka.on (h : Ka base B w p m L cf ca cb Tf fv Ts Te sz vl n xs) (hb : Below w.heap.size w w') : Ka base B w' p m L cf ca cb Tf fv Ts Te sz vl n xs :=
  ⟨h.pf.on hb, h.kf.on hb, h.kb.on hb, h.ka.on hb, ownsRow_below h.row hb, h.sep, h.ext, h.vn, h.lo⟩
/-- A call on the forest. -/
theorem Ka.pfr (h : Ka base B w p m L cf ca cb Tf fv Ts Te sz vl n xs) (hR : PfR base w p m L F w' L') : Ka base B w' p m L' cf ca cb Tf fv Ts Te sz vl n xs := by
  have hx := h.xlt
  have hno : ∀ b ∈ cf :: ca :: cb :: vl.ownBlock.toList, b ∉ m :: wbs L := fun b hb hm => by
    obtain ⟨_, h2, h3, _⟩ := h.ext b hb
    rcases List.mem_cons.1 hm with h4 | h4
    · exact h2 h4
    · exact h3 h4
  refine ⟨hR.pf, h.kf.kp hR.kp (hno _ (by simp)), h.kb.kp hR.kp (hno _ (by simp)), h.ka.kp hR.kp (hno _ (by simp)), hR.kp.row h.row (fun b hb => hno b (by simp [hb])), h.sep, fun b hb => ?_, h.vn, h.lo⟩
  obtain ⟨h1, h2, h3, h4, h5⟩ := h.ext b hb
  refine ⟨h1, h2, fun hm => ?_, hR.ofr b (hx b hb) h4, h5⟩
  rcases hR.new b hm with h6 | h6
  · exact h3 h6
  · have := hx b hb
    omega
/-- One more in the slice: the row grew, and is stored. -/
theorem Ka.app (h : Ka base B w p m L cf ca cb Tf fv Ts Te sz vl n xs) {v3 : Value} {w3 : World} {n3 : Nat} {xs3 : List Value} (o3 : w3.ownsRow B Te sz v3 n3 xs3) (g3 : w.grownBy w3 vl.ownBlock) (a3 : v3.ownBlock = vl.ownBlock ∨ v3.ownBlock = some w.heap.size) :
    w3.cell? ⟨ca, 0, none⟩ = some vl ∧ (∀ j, w3.frozen? ⟨ca, j, none⟩ = false) ∧ ca < w3.heap.size ∧ Ka base B (w3.setCell ⟨ca, 0, none⟩ v3) p m L cf ca cb Tf fv Ts Te sz v3 n3 xs3 ∧ Kr m ca w L vl (w3.setCell ⟨ca, 0, none⟩ v3) L v3 ∧ RowKit.Below B w (w3.setCell ⟨ca, 0, none⟩ v3) := by
  have hx := h.xlt
  have hk : Kp vl.ownBlock.toList w w3 := kp_of_grown g3
  have hcn : ∀ b ∈ [cf, ca, cb], b ∉ vl.ownBlock.toList := fun b hb hm => by
    have := h.vn b (by simpa using hm)
    simp only [List.mem_cons, List.not_mem_nil, or_false] at hb
    rcases hb with rfl | rfl | rfl
    · exact this.1 rfl
    · exact this.2.1 rfl
    · exact this.2.2 rfl
  have ka3 := h.ka.kp hk (hcn ca (by simp))
  have hk4 : Kp (ca :: vl.ownBlock.toList) w (w3.setCell ⟨ca, 0, none⟩ v3) := (hk.mono (fun b hb _ => List.mem_cons_of_mem _ hb)).set ⟨ca, 0, none⟩ (by simp) v3
  have hv3 : ∀ b, v3.ownBlock = some b → vl.ownBlock = some b ∨ b = w.heap.size := fun b hb => by
    rcases a3 with h1 | h1
    · exact .inl (by rw [← h1]; exact hb)
    · rw [h1] at hb
      cases hb
      exact .inr rfl
  have hca3 : v3.ownBlock ≠ some ca := fun e => by
    rcases hv3 ca e with h1 | h1
    · exact (h.vn ca h1).2.1 rfl
    · have := hx ca (by simp)
      omega
  have hmem : ∀ b ∈ ca :: vl.ownBlock.toList, b ∈ cf :: ca :: cb :: vl.ownBlock.toList := fun b hb => by
    rcases List.mem_cons.1 hb with rfl | hb
    · simp
    · simp [hb]
  refine ⟨ka3.cell 0, fun j => ka3.fz j, ka3.lt, ⟨?_, ?_, ?_, ?_, ownsRow_set o3 ⟨ca, 0, none⟩ hca3 v3, h.sep, fun b hb => ?_, fun b hb => ?_, h.lo⟩, ⟨hk4.mono (fun b hb _ => ?_), fun _ h => .inl h, fun _ _ h => h, fun b hb => ?_⟩, hk4.below (by have h1 := (h.ext ca (by simp)).2.2.2.2; have h2 := hx ca (by simp); omega) (fun b hb => (h.ext b (hmem b hb)).2.2.2.2)⟩
  · refine h.pf.kept hk4 (fun hm => (h.ext p (hmem p hm)).1 rfl) (fun hm => (h.ext m (hmem m hm)).2.1 rfl) (fun x e he => ⟨fun b hb hm => (h.ext b (hmem b hm)).2.2.1 ((mem_wbs h.pf.nd).2 ⟨x, e, he, hb⟩), fun z hz b hb => (h.ext b (hmem b hb)).2.2.2.1 x e he z hz⟩)
  · exact (h.kf.kp hk (hcn cf (by simp))).other (fun e => h.sep.1 e.symm) 0 v3
  · exact (h.kb.kp hk (hcn cb (by simp))).other (fun e => h.sep.2 e.symm) 0 v3
  · exact ka3.set 0 v3
  · simp only [List.mem_cons, Option.mem_toList] at hb
    have hold : ∀ b, b ∈ cf :: ca :: cb :: vl.ownBlock.toList → b ≠ p ∧ b ≠ m ∧ b ∉ wbs L ∧ Ofr L b ∧ B ≤ b := h.ext
    rcases hb with rfl | rfl | rfl | hb
    · exact hold _ (by simp)
    · exact hold _ (by simp)
    · exact hold _ (by simp)
    · rcases hv3 b hb with h1 | h1
      · exact hold b (by simp [h1])
      · obtain ⟨l1, l2⟩ := h.pf.lt
        refine ⟨by omega, by omega, fun hm => ?_, fun x e he z hz => (h.pf.rows x e he).ros hz (by omega), (o3.lt b hb).1⟩
        obtain ⟨x, e, he, hb'⟩ := (mem_wbs h.pf.nd).1 hm
        have := (h.pf.wlt he hb').2
        omega
  · rcases hv3 b hb with h1 | h1
    · exact h.vn b h1
    · have h2 := hx cf (by simp)
      have h3 := hx ca (by simp)
      have h4 := hx cb (by simp)
      exact ⟨by omega, by omega, by omega⟩
  · rcases List.mem_cons.1 hb with rfl | hb
    · simp
    · simp [show b ∈ vl.ownBlock.toList from hb]
  · rcases hv3 b hb with h1 | h1
    · exact .inl h1
    · exact .inr (by omega)
theorem Kr.bel (h : Kr m ca u L vl w' L' vl') (hK : Ka base B u p m L cf ca cb Tf fv Ts Te sz vl n xs) : Below base u w' := by
  have h1 := hK.pf.lt.1
  have h2 := hK.pf.lop
  have hlo := hK.lo
  refine h.kp.below (by omega) (fun k hk => ?_)
  simp only [List.mem_cons, List.mem_append, Option.mem_toList] at hk
  rcases hk with rfl | rfl | hk | hk
  · exact hK.pf.lom
  · have := (hK.ext k (by simp)).2.2.2.2
    omega
  · obtain ⟨x, e, he, hb⟩ := (mem_wbs hK.pf.nd).1 hk
    exact (hK.pf.wlt he hb).1
  · have := (hK.ext k (by simp [hk])).2.2.2.2
    omega
/-- A row that is only read stays. -/
theorem Kr.rd (h : Kr m ca u L vl w' L' vl') (hK : Ka base B u p m L cf ca cb Tf fv Ts Te sz vl n xs) {x : Int} {e : Ps} (he : gt L x = some e) {z : Sl} (hz : z ∈ ros e.s) {k : Nat} (hr : RdM k u z.a z.n z.c z.l) : RdM k w' z.a z.n z.c z.l := by
  refine rd_far hr h.kp (fun b hb => ?_)
  simp only [List.mem_cons, List.mem_append, Option.mem_toList] at hb
  rcases hb with rfl | rfl | hb | hb
  · exact (hK.pf.far x e he z hz).2
  · exact (hK.ext b (by simp)).2.2.2.1 x e he z hz
  · obtain ⟨y, e', he', hb'⟩ := (mem_wbs hK.pf.nd).1 hb
    by_cases hxy : y = x
    · subst hxy
      rw [he] at he'
      cases he'
      exact ((hK.pf.sep y e he).2 b hb').2.2.2 z hz
    · exact (hK.pf.sep2 y x e' e he' he hxy b hb').2 z hz
  · exact (hK.ext b (by simp [hb])).2.2.2.1 x e he z hz
/-- Variables that are new since w. -/
theorem Ka.out {w0 : World} {L0 : Po} (h0 : Pf base w0 p m L0) {u : World} (hb : Below w0.heap.size w0 u) (hK : Ka base w0.heap.size u p m L0 cf ca cb Tf fv Ts Te sz vl n xs) (h : Kr m ca u L0 vl w' L' vl') (hK' : Pf base w' p m L') (hF : pab L' = F) : PfR base w0 p m L0 F w' L' := by
  refine ⟨hK', hF, ?_, fun b hb' => ?_, fun b hlt ho => h.ofr b (Nat.lt_of_lt_of_le hlt hb.size) ho⟩
  · refine (kp_of_below hb _).trans h.kp (fun b hb' hlt => ?_)
    simp only [List.mem_cons, List.mem_append, Option.mem_toList] at hb'
    rcases hb' with rfl | rfl | hb' | hb'
    · exact List.mem_cons_self
    · have := (hK.ext b (by simp)).2.2.2.2
      omega
    · exact List.mem_cons_of_mem _ hb'
    · have := (hK.ext b (by simp [hb'])).2.2.2.2
      omega
  · rcases h.new b hb' with h1 | h1
    · exact .inl h1
    · exact .inr (Nat.le_trans hb.size h1)
/-- The variables as they are made. -/
theorem ka_new (h : Pf base w p m L) (hlo : base ≤ w.heap.size) {u : World} (hb : Below w.heap.size w u) (hf : Bk u w.heap.size 24 #[.pointer (some ⟨p, 0, none⟩)]) (ha : Bk u (w.heap.size + 1) Ts #[.slice none 0 0]) (hc : Bk u (w.heap.size + 2) Tf #[fv]) :
    Ka base w.heap.size u p m L w.heap.size (w.heap.size + 1) (w.heap.size + 2) Tf fv Ts Te sz (.slice none 0 0) 0 [] := by
  obtain ⟨l1, l2⟩ := h.lt
  refine ⟨h.on hb, hf, hc, ha, World.ownsRow_nil _ _ _ _, ⟨by omega, by omega⟩, fun b hb' => ?_, fun b hb' => (by cases hb'), hlo⟩
  have hge : w.heap.size ≤ b := by
    simp only [List.mem_cons, Option.mem_toList, Value.ownBlock] at hb'
    rcases hb' with rfl | rfl | rfl | hb'
    · omega
    · omega
    · omega
    · cases hb'
  refine ⟨by omega, by omega, fun hm => ?_, fun x e he z hz => (h.rows x e he).ros hz hge, hge⟩
  obtain ⟨x, e, he, hb2⟩ := (mem_wbs h.nd).1 hm
  have := (h.wlt he hb2).2
  omega
end Go.Proofs.YtdgknofpkafppaaDoor

/- Forests: a row of children gone through. No program. -/
namespace Go.Proofs.YtdgknofpkafppaaDoor
open Go Go.RowKit

/-- What stays over the children. -/
structure Fld (F : Fo) (m : Nat) (G : Fo) : Prop where
  inv : Inv G
  nof : Nof G
  szf : Szf m G
  tre : Tre F G
theorem kst_all {F : Fo} {m n : Nat} {r : Fo × List Int} (h : Fld F m r.1) (k : Int) : Fld F m (kst n r k).1 ∧ (kst n r k).2.length ≤ r.2.length + (if k = 0 then 0 else dsc F k) := by
  by_cases hk : k = 0
  · have : kst n r k = r := by
      unfold kst
      rw [hk, h.inv.zero]
    rw [this, if_pos hk]
    exact ⟨h, by omega⟩
  · rw [if_neg hk]
    unfold kst
    split
    · exact ⟨h, by omega⟩
    · rename_i c hc
      split
      · exact ⟨h, by omega⟩
      · split
        · have h1 := kds_inv n r.1 k r.2 h.inv
          have h2 := kds_length n r.1 k r.2 h.inv h.nof (by rw [hc]; rfl)
          rw [← h.tre.dsc] at h2
          exact ⟨⟨h1.1, kds_nof n _ _ _ h.nof, kds_szf n _ _ _ h.szf, h.tre.trans h1.2⟩, by omega⟩
        · have htu := tre_upd r.1 k aplS (fun _ => ⟨rfl, rfl⟩)
          have h1 := kds_inv n (upd r.1 k aplS) k (r.2 ++ [k]) (h.inv.apls k)
          have hn : Nof (upd r.1 k aplS) := h.nof.turn _ _ fun s _ hs => hs.apls
          have hz : Szf m (upd r.1 k aplS) := h.szf.turn (Nat.le_refl m) _ _ fun s hs => hs.apls
          obtain ⟨t, h3, _⟩ := htu.some hc
          have h2 := kds_length n (upd r.1 k aplS) k (r.2 ++ [k]) (h.inv.apls k) hn (by rw [h3]; rfl)
          rw [List.length_append, List.length_singleton, ← htu.dsc, ← h.tre.dsc] at h2
          exact ⟨⟨h1.1, kds_nof n _ _ _ hn, kds_szf n _ _ _ hz, (h.tre.trans htu).trans h1.2⟩, by omega⟩
theorem fld_all {F : Fo} {m n : Nat} : ∀ (K : List Int) (r : Fo × List Int), Fld F m r.1 → Fld F m (K.foldl (kst n) r).1 ∧ (K.foldl (kst n) r).2.length ≤ r.2.length + ((K.filter fun k => k != 0).map (dsc F)).sum := fun K => by
  induction K with
  | nil => exact fun r h => ⟨h, Nat.le_refl _⟩
  | cons k K ih =>
    intro r h
    rw [List.foldl_cons]
    obtain ⟨h1, h2⟩ := kst_all (n := n) h k
    obtain ⟨h3, h4⟩ := ih _ h1
    refine ⟨h3, ?_⟩
    rw [List.filter_cons]
    by_cases hk : k = 0
    · rw [if_neg (by simpa using hk)]
      rw [if_pos hk] at h2
      omega
    · rw [if_pos (by simpa using hk), List.map_cons, List.sum_cons]
      rw [if_neg hk] at h2
      omega
theorem sum_take_le (l : List Int) (f : Int → Nat) (j : Nat) : (((l.take j).filter fun k => k != 0).map f).sum ≤ ((l.filter fun k => k != 0).map f).sum := by
  have : l.filter (fun k => k != 0) = (l.take j).filter (fun k => k != 0) ++ (l.drop j).filter (fun k => k != 0) := by rw [← List.filter_append, List.take_append_drop]
  rw [this, List.map_append, List.sum_append]
  omega
/-- So long is the list at any time. -/
theorem fld_len {F : Fo} {m n : Nat} (hI : Inv F) (hN : Nof F) (hZ : Szf m F) {x : Int} {s : Sf} (hs : gt F x = some s) (acc : List Int) (j : Nat) : Fld F m (((un1 s.no.od).take j).foldl (kst n) (F, acc)).1 ∧ (((un1 s.no.od).take j).foldl (kst n) (F, acc)).2.length ≤ acc.length + 40 := by
  obtain ⟨h1, h2⟩ := fld_all (F := F) (m := m) (n := n) ((un1 s.no.od).take j) (F, acc) ⟨hI, hN, hZ, Tre.refl F⟩
  refine ⟨h1, ?_⟩
  have h3 := sum_take_le (un1 s.no.od) (dsc F) j
  have h4 := kids_dsc hI.acy hs (nodup_filter_ne (hN x s hs).no) (kid_mem hI hs)
  have h5 := dsc_le F x
  have h6 := hI.len
  dsimp only at h2
  omega
theorem fold_take {α : Type} {l : List Int} {j : Nat} {k : Int} (h : l[j]? = some k) (f : α → Int → α) (r : α) : (l.take (j + 1)).foldl f r = f ((l.take j).foldl f r) k := by
  rw [List.take_add_one, h, List.foldl_append]
  rfl
end Go.Proofs.YtdgknofpkafppaaDoor

/- The program's forest: what waits below is applied. -/
namespace Go.Proofs.YtdgknofpkafppaaDoor
open Go Go.RowKit

theorem Nok.tre {L L1 : Po} (h : Nok L) (ht : Tre (pab L) (pab L1)) : Nok L1 := by
  have hk : ∀ {L : Po} x e, gt L x = some e → gt (pab L) x = some e.s.f := fun x e he => by rw [gt_pab, he]; rfl
  have hb : ∀ {L2 L3 : Po}, Tre (pab L2) (pab L3) → ∀ x e, gt L3 x = some e → ∃ e', gt L2 x = some e' ∧ e'.s.par = e.s.par := fun ht x e he => by
    obtain ⟨t, h1, h2, _⟩ := ht.symm.some (hk x e he)
    rw [gt_pab] at h1
    obtain ⟨e', he', rfl⟩ := Option.map_eq_some_iff.1 h1
    exact ⟨e', he', h2⟩
  refine ⟨ht.acy h.acy, ?_, fun x e he => ?_, fun x e he => ?_⟩
  · have := ht.none (x := 0) (by rw [gt_pab, h.zero]; rfl)
    rw [gt_pab] at this
    exact Option.map_eq_none_iff.1 this
  · obtain ⟨e', he', hp⟩ := hb ht x e he
    rcases h.par x e' he' with h0 | h0
    · exact .inl (by rw [← hp, h0])
    · obtain ⟨e2, he2⟩ := Option.isSome_iff_exists.1 h0
      rw [hp] at he2
      obtain ⟨e3, he3, _⟩ := hb ht.symm _ e2 he2
      exact .inr (by rw [he3]; rfl)
  · obtain ⟨e', he', hp⟩ := hb ht x e he
    have := h.key x e' he'
    exact ⟨this.1, by rw [← hp]; exact this.2⟩
theorem own_val {w : World} {B T s n : Nat} {v : Value} {xs : List Value} (h : w.ownsRow B T s v n xs) : ∃ a c, v = .slice a n c := by
  rcases h.2 with ⟨rfl, rfl⟩ | ⟨g, cap, cur, rfl, _⟩
  · exact ⟨_, _, rfl⟩
  · exact ⟨_, _, rfl⟩

variable {base B : Nat} {w u w' : World} {p m : Nat} {L L' : Po} {F : Fo} {cf ca cb : Nat} {vl : Value} {es : List Addr}
/-- The closure as a value. -/
def fvB (cf ca cb : Nat) : Value := .func (.func 61) #[] #[.pointer (some ⟨cf, 0, none⟩), .pointer (some ⟨ca, 0, none⟩), .pointer (some ⟨cb, 0, none⟩)]
/-- Its variables. -/
abbrev Kab (base B : Nat) (w : World) (p m : Nat) (L : Po) (cf ca cb : Nat) (vl : Value) (A : List Int) : Prop := Ka base B w p m L cf ca cb 93 (fvB cf ca cb) 22 3 1 vl A.length (ic A)
/-- What it leaves. -/
def KbR (base B : Nat) (p m : Nat) (cf ca cb : Nat) (u : World) (L : Po) (vl : Value) (r : Fo × List Int) (e' : Ending) (w' : World) : Prop := e' = .returned undef ∧ ∃ L' vl', Kab base B w' p m L' cf ca cb vl' r.2 ∧ pab L' = r.1 ∧ Kr m ca u L vl w' L' vl'

set_option maxRecDepth 100000 in
set_option maxHeartbeats 4000000 in
theorem fwaits_any {mm : Nat} (hm : mm ≤ 900) (hB : 5 ≤ base) : ∀ (n : Nat) (x : Int) (u : World) (L : Po) (vl : Value) (A : List Int) (e : Ps), Kab base B u p m L cf ca cb vl A → Fe u es → Inv (pab L) → Nof (pab L) → Szf mm (pab L) → Nok L → gt L x = some e → 40 ≤ n + dpt (pab L) x → n ≤ 41 → A.length + 100 * n ≤ 100000 →
    Calls Tryd.prog 61 (#[.pointer (some ⟨e.g, 0, none⟩)] ++ #[.pointer (some ⟨cf, 0, none⟩), .pointer (some ⟨ca, 0, none⟩), .pointer (some ⟨cb, 0, none⟩)]) u (KbR base B p m cf ca cb u L vl (kds (n + 1) (pab L) x A)) := by
  intro n
  induction n using Nat.strongRecOn with
  | ind n ih =>
    intro x u L vl A e hK hE hI hN hZ hNk hs hd hn hacc
    have eg := enters_of Tryd.func61 (by kernel_rfl) rfl
    obtain ⟨i0, hi, hz0, hz1, hz2⟩ := infoMP infoM1
    have hsa : gt (pab L) x = some e.s.f := by rw [gt_pab, hs]; rfl
    obtain ⟨od, hod⟩ : ∃ od, od = un1 e.s.no.od.l := ⟨_, rfl⟩
    obtain ⟨N, hNN⟩ : ∃ N, N = e.s.no.od.n := ⟨_, rfl⟩
    obtain ⟨oa, hoa⟩ : ∃ oa, oa = e.s.no.od.a := ⟨_, rfl⟩
    obtain ⟨oc, hoc⟩ : ∃ oc, oc = e.s.no.od.c := ⟨_, rfl⟩
    have HFIN : Hid (kds (n + 1) (pab L) x A = od.foldl (kst n) (pab L, A)) := by rw [Hid, kds_succ, hsa, hod]; rfl
    have HFLD : Hid (∀ j, Fld (pab L) mm ((od.take j).foldl (kst n) (pab L, A)).1 ∧ ((od.take j).foldl (kst n) (pab L, A)).2.length ≤ A.length + 40) := fun j => by rw [hod]; exact fld_len hI hN hZ hsa A j
    have HRZ : Hid (∀ u1 L1 vl1, Kr m ca u L vl u1 L1 vl1 → Rz u1 oa N oc od) := fun u1 L1 vl1 hk => by
      rw [hod, hNN, hoa, hoc]
      exact rz_of_rdm (hk.rd hK hs (by simp [ros]) (hK.pf.rows x e hs).ok.no.od)
    have hN63 := (HRZ.out _ _ _ (Kr.refl (Below.refl _ _))).small.1
    have HLN := hid (HRZ.out _ _ _ (Kr.refl (Below.refl _ _))).len
    have HBT : Hid (∀ j k, od[j]? = some k → Bt k) := fun j k hj => by
      by_cases hk0 : k = 0
      · rw [hk0]
        exact bt0
      · obtain ⟨c0, hc0, _⟩ := hI.kid x e.s.f hsa k (.inr (.inr (by show k ∈ un1 e.s.no.od.l; rw [← hod]; exact List.mem_of_getElem? hj))) hk0
        rw [gt_pab] at hc0
        obtain ⟨e0, he0, _⟩ := Option.map_eq_some_iff.1 hc0
        exact (hNk.key k e0 he0).1
    have HFE : Hid (∀ u1 L1 vl1, Kr m ca u L vl u1 L1 vl1 → Fe u1 es) := fun u1 L1 vl1 hk => hE.kb (hk.bel hK) hB
    have HREC : Hid (∀ (L1 : Po) (A1 : List Int) (j : Nat) (k : Int), Fld (pab L) mm (pab L1) → A1.length ≤ A.length + 40 → od[j]? = some k → k ≠ 0 → ∀ (wc : World) (L2 : Po) (vv : Value) (A2 : List Int) (e2 : Ps), Kab base B wc p m L2 cf ca cb vv A2 → Kr m ca u L vl wc L2 vv → gt L2 k = some e2 → (pab L2 = pab L1 ∧ A2 = A1 ∨ pab L2 = upd (pab L1) k aplS ∧ A2 = A1 ++ [k]) → Calls Tryd.prog 61 (#[.pointer (some ⟨e2.g, 0, none⟩)] ++ #[.pointer (some ⟨cf, 0, none⟩), .pointer (some ⟨ca, 0, none⟩), .pointer (some ⟨cb, 0, none⟩)]) wc (KbR base B p m cf ca cb wc L2 vv (kds n (pab L2) k A2))) := fun L1 A1 j k hF hl1 hj hk0 wc L2 vv A2 e2 hK2 hKr hg2 h2 => by
      obtain ⟨c0, hc0, hpar⟩ := hI.kid x e.s.f hsa k (.inr (.inr (by show k ∈ un1 e.s.no.od.l; rw [← hod]; exact List.mem_of_getElem? hj))) hk0
      have hdk := dpt_lt hI.acy hc0
      rw [hpar] at hdk
      have hdl := dpt_le (pab L) k
      have hFl := hI.len
      obtain ⟨n', rfl⟩ : ∃ n', n = n' + 1 := ⟨n - 1, by omega⟩
      have hall : Fld (pab L) mm (pab L2) ∧ A2.length ≤ A.length + 41 := by
        rcases h2 with ⟨e1, e2⟩ | ⟨e1, e2⟩
        · rw [e1, e2]
          exact ⟨hF, by omega⟩
        · rw [e1, e2]
          exact ⟨⟨hF.inv.apls k, hF.nof.turn _ _ fun s _ hs => hs.apls, hF.szf.turn (Nat.le_refl mm) _ _ fun s hs => hs.apls, hF.tre.trans (tre_upd _ k aplS (fun _ => ⟨rfl, rfl⟩))⟩, by rw [List.length_append]; simp; omega⟩
      obtain ⟨hF2, hl2⟩ := hall
      have hd2 := hF2.tre.dpt k
      exact ih n' (by omega) k wc L2 vv A2 e2 hK2 (hE.kb (hKr.bel hK) hB) hF2.inv hF2.nof hF2.szf (hNk.tre hF2.tre) hg2 (by omega) (by omega) (by omega)
    have HKST0 : Hid (∀ (L1 : Po) (A1 : List Int) (k : Int), sy (pab L1) k = false → kst n (pab L1, A1) k = (pab L1, A1)) := fun L1 A1 k h1 => by
      unfold kst
      cases gt (pab L1) k with
      | none => rfl
      | some c => exact if_pos (.inr h1)
    have HKST2 : Hid (∀ (L1 : Po) (A1 : List Int) (k : Int) (c : Ps), gt L1 k = some c → k ≠ 0 → sy (pab L1) k = true → ∀ (L2 : Po) (A2 : List Int), (non c.s.ca.q = true ∧ pab L2 = pab L1 ∧ A2 = A1 ∨ non c.s.ca.q = false ∧ pab L2 = upd (pab L1) k aplS ∧ A2 = A1 ++ [k]) → kst n (pab L1, A1) k = kds n (pab L2) k A2) := fun L1 A1 k c h h0 h1 L2 A2 h2 => by
      unfold kst
      rw [gt_pab, h]
      show (if k = 0 ∨ sy (pab L1) k = false then _ else if non c.s.ca.q then _ else _) = _
      rw [if_neg (by rw [h1]; simp [h0])]
      rcases h2 with ⟨e, e1, e2⟩ | ⟨e, e1, e2⟩
      · rw [e, e1, e2]; rfl
      · rw [e, e1, e2]; rfl
    have HNK : Hid (∀ L1, Tre (pab L) (pab L1) → Nok L1) := fun L1 ht => hNk.tre ht
    have HK := hid hK
    have c28 : u.cell? ⟨e.g, 28, none⟩ = some (.slice oa N oc) := by rw [hNN, hoa, hoc]; exact hK.pf.cell hs
    have hlt := (hK.pf.wlt hs (mem_wb.2 (.inl rfl))).2
    clear hK hE hI hN hZ hNk hs hsa hod hNN hoa hoc ih hd hn
    go_enter Tryd.func61, Tryd.ntmps61
    go_wp2
    go_loopw [14] (fun i wr => ∃ j : Nat, i = .int .i64 j ∧ j ≤ N ∧ ∃ L1 vv, Kab base B wr p m L1 cf ca cb vv ((od.take j).foldl (kst n) (pab L, A)).2 ∧ pab L1 = ((od.take j).foldl (kst n) (pab L, A)).1 ∧ Kr m ca u L vl wr L1 vv) (fun i _ => N - (numOf i).toNat)
    case atStart => exact ⟨0, rfl, by omega, L, vl, HK.out, rfl, Kr.refl (Below.refl _ _)⟩
    case round =>
      obtain ⟨j, rfl, hj, L1, vv, hK1, ha1, hb1⟩ := hrel
      obtain ⟨hF, hlen⟩ := HFLD.out j
      clear c28 hlt
      by_cases hgo : j < N
      · have e1 : decide ((j : Int) < N) = true := decide_eq_true (by omega)
        have e2 : (j : Int) < N := by omega
        obtain ⟨bl, off, k, ha, _, hk, ck⟩ := (HRZ.out _ _ _ hb1).at_ (j := j) hgo
        have HFT := hid (fold_take hk (kst n) (pab L, A))
        obtain ⟨⟨F1, A1⟩, hr1⟩ : ∃ r1, r1 = (od.take j).foldl (kst n) (pab L, A) := ⟨_, rfl⟩
        rw [← hr1] at hK1 ha1 hF hlen HFT
        dsimp only at hK1 ha1 hF hlen
        subst ha1
        subst ha
        have HKJ := hid hk
        have hNk1 := HNK.out L1 hF.tre
        have CSY := hid (fsynced_one (HFE.out _ _ _ hb1) hK1.pf hNk1 k (HBT.out j k hk))
        have HK1 := hid hK1
        have HB1 := hid hb1
        have HF := hid hF
        have f1 : wr.cell? ⟨cf, 0, none⟩ = some (.pointer (some ⟨p, 0, none⟩)) := hK1.kf.cell 0
        have f2 := hK1.kf.lt
        clear hr1
        cases hsy : sy (pab L1) k with
        | false =>
          rw [hsy] at CSY
          rw [HKST0.out L1 A1 k hsy] at HFT
          have HX : Hid (∀ q, Kab base B (wr.drewN q) p m L1 cf ca cb vv A1 ∧ Kr m ca u L vl (wr.drewN q) L1 vv) := fun q => ⟨hK1.on (below_drewN (Below.refl _ _) q), hb1.trans (Kr.refl (below_drewN (Below.refl _ _) q))⟩
          clear hk hF hb1 hK1 hsy hNk1
          go_wp2_with fail
          refine CSY.out.mono ?_
          rintro e' w6 ⟨rfl, q6, rfl⟩
          have HY := hid (HX.out q6)
          go_wp2
          go_roundw
          case rel => exact ⟨j + 1, by go_num, by omega, L1, vv, by rw [HFT.out]; exact HY.out.1, by rw [HFT.out], HY.out.2⟩
          case measure => simp [numOf]; omega
        | true =>
          rw [hsy] at CSY
          obtain ⟨c, hc⟩ : ∃ c, gt L1 k = some c := by
            cases hc : gt L1 k with
            | some c => exact ⟨c, rfl⟩
            | none =>
              rw [sy_none (by rw [gt_pab, hc]; rfl)] at hsy
              cases hsy
          have hk0 : k ≠ 0 := fun e0 => by
            rw [e0, hNk1.zero] at hc
            cases hc
          have HST := hid (HKST2.out L1 A1 k c hc hk0 hsy)
          have hokc := (hK1.pf.rows k c hc).ok
          obtain ⟨-, l2, l3⟩ := zs_len (HF.out.szf k c.s.f (by rw [gt_pab, hc]; rfl)) hokc hm
          have HK0 := hid hk0
          have HP : Hid (∀ W : World, Below wr.heap.size wr W → (Instr.lookup 52 (.map (some m)) (.int .i64 k) false).run Tryd.prog W = .ok (.pointer (some ⟨c.g, 0, none⟩)) W ∧ W.cell? ⟨p, 0, none⟩ = some (.map (some m)) ∧ p < W.heap.size ∧ c.g < W.heap.size) := fun W hW => by
            have h1 := hK1.pf.on hW
            have h2 := h1.run (k := k) (HBT.out j k hk)
            rw [pto, hc] at h2
            exact ⟨h2, h1.c0, h1.lt.1, (h1.wlt hc (mem_wb.2 (.inl rfl))).2⟩
          have HCC : Hid (∀ W : World, Below wr.heap.size wr W → (W.cell? ⟨c.g, 10, none⟩ = some (.bool c.s.ca.at_) ∧ W.cell? ⟨c.g, 11, none⟩ = some (.int .i64 c.s.ca.buf) ∧ W.cell? ⟨c.g, 12, none⟩ = some (.slice c.s.ca.dm.a c.s.ca.dm.n c.s.ca.dm.c) ∧ W.cell? ⟨c.g, 13, none⟩ = some (.slice c.s.ca.fr.a c.s.ca.fr.n c.s.ca.fr.c) ∧ W.cell? ⟨c.g, 14, none⟩ = some (.bool c.s.ca.inp) ∧ W.cell? ⟨c.g, 15, none⟩ = some (.bool c.s.ca.all) ∧ W.cell? ⟨c.g, 16, none⟩ = some (.slice c.s.ca.rg.a c.s.ca.rg.n c.s.ca.rg.c) ∧ W.cell? ⟨c.g, 17, none⟩ = some (.bool c.s.ca.ord) ∧ W.cell? ⟨c.g, 18, none⟩ = some (.slice c.s.ca.od.a c.s.ca.od.n c.s.ca.od.c) ∧ W.cell? ⟨c.g, 19, none⟩ = some (.slice c.s.ca.pl.a c.s.ca.pl.n c.s.ca.pl.c)) ∧ c.s.ca.Ok W) := fun W hW => ⟨((hK1.pf.on hW).cells hc).2.1, ((hK1.pf.on hW).rows k c hc).ok.ca⟩
          have HAP : Hid (∀ W : World, Below wr.heap.size wr W → Calls Tryd.prog 37 #[.pointer (some ⟨c.g, 0, none⟩)] W fun e' w' => e' = .returned undef ∧ ∃ L2, Kab base B w' p m L2 cf ca cb vv A1 ∧ Kr m ca u L vl w' L2 vv ∧ pab L2 = upd (pab L1) k aplS ∧ ∃ c2 : Ps, gt L2 k = some c2 ∧ c2.g = c.g) := fun W hW => by
            have hKW := hK1.on hW
            refine (fapply_any hKW.pf hc l2 l3).mono fun e' w' ⟨h1, r, _, hR⟩ => ⟨h1, _, hKW.pfr hR, (hb1.trans (Kr.refl hW)).trans (Kr.pfr hR), hR.ab, ⟨c.g, { c.s with no := r, ca := sx0 }⟩, ?_, rfl⟩
            rw [gt_st, if_pos rfl, hc]
            rfl
          have HX : Hid (∀ W, Below wr.heap.size wr W → Kab base B W p m L1 cf ca cb vv A1 ∧ Kr m ca u L vl W L1 vv) := fun W hW => ⟨hK1.on hW, hb1.trans (Kr.refl hW)⟩
          have HCG := hid hc
          clear hk hF hb1 hK1 hsy hNk1 hk0 hokc l2 l3 hc HK1 HB1
          go_wp2_with fail
          refine CSY.out.mono ?_
          rintro e' w6 ⟨rfl, q6, hw6⟩
          have hb6 : Below wr.heap.size wr w6 := by rw [hw6]; exact below_drewN (Below.refl _ _) q6
          obtain ⟨t1, t2, t3, t4⟩ := HP.out _ hb6
          obtain ⟨⟨a0, a1, a2, a3, a4, a5, a6, a7, a8, a9⟩, okc⟩ := HCC.out _ hb6
          have f3 : w6.cell? ⟨cf, 0, none⟩ = some (.pointer (some ⟨p, 0, none⟩)) := (HX.out _ hb6).1.kf.cell 0
          have f4 := (HX.out _ hb6).1.kf.lt
          have CNO := hid (none_any c.s.ca w6 okc)
          have HB6 := hid hb6
          clear hw6 hb6 CSY okc HP HCC f1 f2 ck
          go_wp2_with fail
          refine CNO.out.mono ?_
          rintro e' w7 ⟨rfl, hb7⟩
          have HB7 := hid (Below.on HB6.out hb7)
          clear hb7 CNO t1 t2 t3 t4 a0 a1 a2 a3 a4 a5 a6 a7 a8 a9 f3 f4 HB6
          go_upto_if 33 with fail
          go_cut [] (fun wc => ∃ L2 vv2 A2, Kab base B wc p m L2 cf ca cb vv2 A2 ∧ (non c.s.ca.q = true ∧ pab L2 = pab L1 ∧ A2 = A1 ∨ non c.s.ca.q = false ∧ pab L2 = upd (pab L1) k aplS ∧ A2 = A1 ++ [k]) ∧ Kr m ca u L vl wc L2 vv2 ∧ ∃ c2 : Ps, gt L2 k = some c2 ∧ c2.g = c.g)
          case first =>
            cases hno : non c.s.ca.q with
            | true =>
              go_wp2
              go_meet
              exact ⟨L1, vv, A1, (HX.out _ HB7.out).1, .inl ⟨hno, rfl, rfl⟩, (HX.out _ HB7.out).2, c, HCG.out, rfl⟩
            | false =>
              go_wp2_with fail
              refine (HAP.out _ HB7.out).mono ?_
              rintro e' w8 ⟨rfl, L2, hK8, hKr8, hab8, hc8⟩
              have h9 := bel_new w8 (.cells #[.int .i64 k] 3)
              have hK9 := hK8.on h9
              have HKR := hid (hKr8.trans (Kr.refl h9))
              have HAB := hid hab8
              have HC8 := hid hc8
              have d1 : w8.cell? ⟨ca, 0, none⟩ = some vv := hK8.ka.cell 0
              have d2 := hK8.ka.lt
              obtain ⟨va, vc, hvv⟩ := own_val hK8.row
              have HOW := hid hK9.row
              have HSL := hid (srcLit w8 k)
              have hws : B ≤ (w8.alloc (.cells #[.int .i64 k] 3)).heap.size := by
                have h1 := (hK9.ext ca (by simp)).2.2.2.2
                have h2 := hK9.ka.lt
                omega
              have HAPP : Hid (∀ v3 w3, w3.ownsRow B 3 1 v3 (A1.length + 1) (ic A1 ++ ic [k]) → (w8.alloc (.cells #[.int .i64 k] 3)).grownBy w3 vv.ownBlock → (v3.ownBlock = vv.ownBlock ∨ v3.ownBlock = some (w8.alloc (.cells #[.int .i64 k] 3)).heap.size) → ∃ a c, v3 = .slice a (A1.length + 1) c ∧ w3.cell? ⟨ca, 0, none⟩ = some vv ∧ (∀ j, w3.frozen? ⟨ca, j, none⟩ = false) ∧ ca < w3.heap.size ∧ ∃ W4, W4 = w3.setCell ⟨ca, 0, none⟩ (.slice a (A1.length + 1) c) ∧ Kab base B W4 p m L2 cf ca cb v3 (A1 ++ [k]) ∧ Kr m ca u L vl W4 L2 v3) := fun v3 w3 o3 g3 a3 => by
                obtain ⟨a, c, hv3⟩ := own_val o3
                obtain ⟨k1, k2, k3, k4, k5, -⟩ := hK9.app o3 g3 a3
                refine ⟨a, c, hv3, k1, k2, k3, _, rfl, ?_, ?_⟩
                · rw [← hv3]
                  show Ka _ _ _ _ _ _ _ _ _ _ _ _ _ _ _ (A1 ++ [k]).length (ic (A1 ++ [k]))
                  rw [ic_append, List.length_append]
                  exact k4
                · rw [← hv3]
                  exact HKR.out.trans k5
              subst hvv
              clear hK8 hK9 hKr8 hab8 hc8 h9
              generalize A1.length = m9 at *
              go_wp2_with (at_builtin; refine wpList_append_own_at _ rfl (.tmp 36) (.tmp 38) 22 22 rfl B 3 i0 (.int .i64 0) 1 8 Tryd.underlying22 hi hz0 hz1 hz2 rfl _ _ _ rfl HOW.out _ _ _ rfl HSL.out (by simp only [maxLen]; omega) (fitsM (by omega) (by decide)) hws ?_; intro v3 w3 o3 g3 a3; obtain ⟨av, cv, rfl, d3, d4, d5, W4, hW4, hK4, hR4⟩ := HAPP.out _ _ o3 g3 a3; have HW4 := hid hW4; have HK4 := hid hK4; have HR4 := hid hR4; clear o3 g3 a3 hW4 hK4 hR4)
              go_meet
              rw [← HW4.out]
              exact ⟨L2, _, _, HK4.out, .inr ⟨hno, HAB.out, rfl⟩, HR4.out, HC8.out⟩
          case rest =>
            obtain ⟨L2, vv2, A2, hK2, h2, hb2, c2, hc2, hg2⟩ := hcut
            have hkk := HST.out L2 A2 h2
            rw [hkk] at HFT
            have CRE := hid (HREC.out L1 A1 j k HF.out hlen HKJ.out HK0.out _ L2 _ A2 c2 hK2 hb2 hc2 (h2.imp (fun h => ⟨h.2.1, h.2.2⟩) (fun h => ⟨h.2.1, h.2.2⟩)))
            rw [hg2] at CRE
            have HB2 := hid hb2
            have b1 : wc.cell? ⟨cb, 0, none⟩ = some (fvB cf ca cb) := hK2.kb.cell 0
            have b2 := hK2.kb.lt
            rw [fvB] at b1
            clear hkk hK2 h2 hb2 HST HX HAP HB7 hc2 hg2
            go_wp2_with fail
            refine CRE.out.mono ?_
            rintro e' w9 ⟨rfl, L9, v9, hK9, ha9, hb9⟩
            rw [← HFT.out] at hK9 ha9
            have HK9 := hid hK9
            have HA9 := hid ha9
            have HB9 := hid (HB2.out.trans hb9)
            clear hK9 ha9 hb9 CRE HB2 b1 b2
            go_wp2
            go_roundw
            case rel => exact ⟨j + 1, by go_num, by omega, L9, v9, HK9.out, HA9.out, HB9.out⟩
            case measure => simp [numOf]; omega
      · have e1 : decide ((j : Int) < N) = false := decide_eq_false (by omega)
        obtain rfl : j = N := by omega
        rw [List.take_of_length_le (by rw [HLN.out]; exact Nat.le_refl _), ← HFIN.out] at hK1 ha1
        have HX : Hid (KbR base B p m cf ca cb u L vl (kds (n + 1) (pab L) x A) (.returned undef) wr) := ⟨rfl, L1, vv, hK1, ha1, hb1⟩
        clear hK1 ha1 hb1 hF
        go_wp2
        go_end0
        exact HX.out
end Go.Proofs.YtdgknofpkafppaaDoor

/- The program's forest: applyBelow, Commit. -/
namespace Go.Proofs.YtdgknofpkafppaaDoor
open Go Go.RowKit

theorem kds_acc : ∀ (n : Nat) (F : Fo) (x : Int) (l a : List Int), kds n F x (l ++ a) = ((kds n F x a).1, l ++ (kds n F x a).2)
  | 0, F, x, l, a => rfl
  | n + 1, F, x, l, a => by
    rw [kds_succ, kds_succ]
    split
    · rfl
    · rename_i s _
      have hst : ∀ (r : Fo × List Int) (k : Int), kst n (r.1, l ++ r.2) k = ((kst n r k).1, l ++ (kst n r k).2) := fun r k => by
        unfold kst
        dsimp only
        split
        · rfl
        · split
          · rfl
          · split
            · exact kds_acc n _ _ _ _
            · rw [List.append_assoc]
              exact kds_acc n _ _ _ _
      have hf : ∀ (L : List Int) (r : Fo × List Int), L.foldl (kst n) (r.1, l ++ r.2) = ((L.foldl (kst n) r).1, l ++ (L.foldl (kst n) r).2) := fun L => by
        induction L with
        | nil => exact fun r => rfl
        | cons k L ih =>
          intro r
          rw [List.foldl_cons, List.foldl_cons, hst]
          exact ih _
      exact hf _ (F, a)

variable {base B : Nat} {w u w' : World} {p m : Nat} {L L' : Po} {F : Fo} {id : Int} {es : List Addr} {e : Ps}
set_option maxRecDepth 100000 in
set_option maxHeartbeats 1000000 in
theorem fapplybelow_any {mm : Nat} (hm : mm ≤ 900) (hE : Fe w es) (hB : 5 ≤ base) (h : Pf base w p m L) (hF : Fok mm (pab L)) (he : gt L id = some e) :
    Calls Tryd.prog 38 #[.pointer (some ⟨p, 0, none⟩), .pointer (some ⟨e.g, 0, none⟩)] w fun e' w' => ∃ L' vl, e' = .returned vl ∧ w'.ownsRow w.heap.size 3 1 vl (kds 41 (pab L) id []).2.length (ic (kds 41 (pab L) id []).2) ∧ PfR base w p m L (kds 41 (pab L) id []).1 w' L' := by
  have hlo : base ≤ w.heap.size := by
    have := h.lt.1
    have := h.lop
    omega
  have HW : Hid (∀ u : World, Below w.heap.size w u → Bk u w.heap.size 24 #[.pointer (some ⟨p, 0, none⟩)] → Bk u (w.heap.size + 1) 22 #[.slice none 0 0] → Bk u (w.heap.size + 1 + 1) 93 #[.func (.func 61) #[] #[.pointer (some ⟨w.heap.size, 0, none⟩), .pointer (some ⟨w.heap.size + 1, 0, none⟩), .pointer (some ⟨w.heap.size + 1 + 1, 0, none⟩)]] →
      Calls Tryd.prog 61 (#[.pointer (some ⟨e.g, 0, none⟩)] ++ #[.pointer (some ⟨w.heap.size, 0, none⟩), .pointer (some ⟨w.heap.size + 1, 0, none⟩), .pointer (some ⟨w.heap.size + 1 + 1, 0, none⟩)]) u fun e' w' => e' = .returned undef ∧ ∃ L' vl, w'.cell? ⟨w.heap.size + 1, 0, none⟩ = some vl ∧ w.heap.size + 1 < w'.heap.size ∧ w'.ownsRow w.heap.size 3 1 vl (kds 41 (pab L) id []).2.length (ic (kds 41 (pab L) id []).2) ∧ PfR base w p m L (kds 41 (pab L) id []).1 w' L') := fun u hb k1 k2 k3 => by
    have hK : Kab base w.heap.size u p m L w.heap.size (w.heap.size + 1) (w.heap.size + 1 + 1) (.slice none 0 0) [] := ka_new h hlo hb k1 k2 k3
    refine (fwaits_any hm hB 40 id u L (.slice none 0 0) [] e hK (hE.on hb) hF.inv hF.nof hF.szf hF.nok he (by omega) (by omega) (by simp)).mono ?_
    rintro e' w' ⟨h1, L', vl', hK', hab, hKr⟩
    exact ⟨h1, L', vl', hK'.ka.cell 0, hK'.ka.lt, hK'.row, Ka.out h hb hK hKr hK'.pf hab⟩
  have eg := enters_of Tryd.func61 (by kernel_rfl) rfl
  obtain ⟨W3, hW3⟩ : ∃ W3, W3 = (((w.alloc (.cells #[.pointer (some ⟨p, 0, none⟩)] 24)).alloc (.cells #[.slice none 0 0] 22)).alloc (.cells #[.nilFunc] 93)) := ⟨_, rfl⟩
  have b1 := bel_new w (.cells #[.pointer (some ⟨p, 0, none⟩)] 24)
  have b2 := bel_new (w.alloc (.cells #[.pointer (some ⟨p, 0, none⟩)] 24)) (.cells #[.slice none 0 0] 22)
  have b3 := bel_new ((w.alloc (.cells #[.pointer (some ⟨p, 0, none⟩)] 24)).alloc (.cells #[.slice none 0 0] 22)) (.cells #[.nilFunc] 93)
  have k1 := ((bk_new w #[.pointer (some ⟨p, 0, none⟩)] 24).on b2).on b3
  have k2 := (bk_new (w.alloc (.cells #[.pointer (some ⟨p, 0, none⟩)] 24)) #[.slice none 0 0] 22).on b3
  have k3 := bk_new ((w.alloc (.cells #[.pointer (some ⟨p, 0, none⟩)] 24)).alloc (.cells #[.slice none 0 0] 22)) #[.nilFunc] 93
  have hb3 := Below.on (Below.on b1 b2) b3
  simp only [size_new] at k2 k3
  rw [← hW3] at k1 k2 k3 hb3
  have k4 := k3.set 0 (.func (.func 61) #[] #[.pointer (some ⟨w.heap.size, 0, none⟩), .pointer (some ⟨w.heap.size + 1, 0, none⟩), .pointer (some ⟨w.heap.size + 1 + 1, 0, none⟩)])
  have k5 := k1.other (show w.heap.size ≠ w.heap.size + 1 + 1 by omega) 0 (.func (.func 61) #[] #[.pointer (some ⟨w.heap.size, 0, none⟩), .pointer (some ⟨w.heap.size + 1, 0, none⟩), .pointer (some ⟨w.heap.size + 1 + 1, 0, none⟩)])
  have k6 := k2.other (show w.heap.size + 1 ≠ w.heap.size + 1 + 1 by omega) 0 (.func (.func 61) #[] #[.pointer (some ⟨w.heap.size, 0, none⟩), .pointer (some ⟨w.heap.size + 1, 0, none⟩), .pointer (some ⟨w.heap.size + 1 + 1, 0, none⟩)])
  have HX := hid (HW.out (W3.setCell ⟨w.heap.size + 1 + 1, 0, none⟩ (.func (.func 61) #[] #[.pointer (some ⟨w.heap.size, 0, none⟩), .pointer (some ⟨w.heap.size + 1, 0, none⟩), .pointer (some ⟨w.heap.size + 1 + 1, 0, none⟩)])) (hb3.setCell (p := ⟨w.heap.size + 1 + 1, 0, none⟩) (by show w.heap.size ≤ w.heap.size + 1 + 1; omega) _) k5 k6 k4)
  have d1 : W3.cell? ⟨w.heap.size + 1 + 1, 0, none⟩ = some .nilFunc := k3.cell 0
  have d2 := k3.fz
  have d3 := k3.lt
  have d4 : (W3.setCell ⟨w.heap.size + 1 + 1, 0, none⟩ (.func (.func 61) #[] #[.pointer (some ⟨w.heap.size, 0, none⟩), .pointer (some ⟨w.heap.size + 1, 0, none⟩), .pointer (some ⟨w.heap.size + 1 + 1, 0, none⟩)])).cell? ⟨w.heap.size + 1 + 1, 0, none⟩ = some (.func (.func 61) #[] #[.pointer (some ⟨w.heap.size, 0, none⟩), .pointer (some ⟨w.heap.size + 1, 0, none⟩), .pointer (some ⟨w.heap.size + 1 + 1, 0, none⟩)]) := k4.cell 0
  have HW3 := hid hW3
  clear hE h hF he hlo b1 b2 b3 k1 k2 k3 k4 k5 k6 hb3 hW3 HW
  go_enter Tryd.func38, Tryd.ntmps38
  go_upto_region 3 with fail
  rw [← HW3.out]
  go_wp2_with fail
  refine HX.out.mono ?_
  rintro e' w5 ⟨rfl, L5, vl, c5, l5, ho5, hR5⟩
  have HO := hid ho5
  have HR := hid hR5
  clear ho5 hR5 HX d1 d2 d3 d4
  go_wp2
  go_ret
  exact ⟨L5, vl, rfl, HO.out, HR.out⟩
end Go.Proofs.YtdgknofpkafppaaDoor

/- The program's forest: Commit. Written by forest/mk_pft.py. -/
namespace Go.Proofs.YtdgknofpkafppaaDoor
open Go Go.RowKit

variable {base B : Nat} {w u w' : World} {p m : Nat} {L L' : Po} {F : Fo} {id : Int} {es : List Addr} {e : Ps}
theorem Fok.cacs {mm : Nat} (h : Fok mm F) (id : Int) : Fok mm (upd F id cacS) := ⟨h.inv.cacs id, h.nof.turn _ _ fun _ _ hs => hs.cacs, h.szf.turn (Nat.le_refl mm) _ _ fun _ hs => hs.cacs, h.bof.turn _ _ fun _ hs => hs.cacs⟩
theorem Fok.apls {mm : Nat} (h : Fok mm F) (id : Int) : Fok mm (upd F id aplS) := ⟨h.inv.apls id, h.nof.turn _ _ fun _ _ hs => hs.apls, h.szf.turn (Nat.le_refl mm) _ _ fun _ hs => hs.apls, h.bof.turn _ _ fun _ hs => hs.apls⟩
theorem ic_mcs (l : List Int) : mcs (sg l) = ic l := by
  induction l with
  | nil => rfl
  | cons z l ih =>
    rw [sg, List.map_cons, mcs_cons]
    rw [sg] at ih
    rw [ih]
    rfl
/-- A block that is none of the forest's was written. -/
theorem PfR.ext (h : PfR base w p m L F w' L') (h0 : Pf base w p m L) {b : Nat} (hb : w.heap.size ≤ b) (hn : b ∉ wbs L') (ho : Ofr L' b) {w2 : World} (hk : Kp [b] w' w2) : PfR base w p m L F w2 L' := by
  obtain ⟨l1, l2⟩ := h0.lt
  refine ⟨h.pf.kept hk (by simp only [List.mem_cons, List.not_mem_nil, or_false]; omega) (by simp only [List.mem_cons, List.not_mem_nil, or_false]; omega) (fun x e he => ⟨fun c hc hm => ?_, fun z hz c hc => ?_⟩), h.ab, h.kp.trans hk (fun c hc hlt => by simp only [List.mem_cons, List.not_mem_nil, or_false] at hc; omega), h.new, h.ofr⟩
  · simp only [List.mem_cons, List.not_mem_nil, or_false] at hm
    rw [hm] at hc
    exact hn ((mem_wbs h.pf.nd).2 ⟨x, e, he, hc⟩)
  · simp only [List.mem_cons, List.not_mem_nil, or_false] at hc
    rw [hc]
    exact ho x e he z hz
/-- A block that is new is none of the forest's. -/
theorem Pf.newb (h : Pf base w p m L) {b : Nat} (hb : w.heap.size ≤ b) : b ∉ wbs L ∧ Ofr L b := by
  refine ⟨fun hm => ?_, fun x e he z hz => (h.rows x e he).ros hz hb⟩
  obtain ⟨x, e, he, hb2⟩ := (mem_wbs h.nd).1 hm
  have := (h.wlt he hb2).2
  omega

/-- What Commit leaves. -/
def CoR (base : Nat) (w : World) (p m : Nat) (L : Po) (es : List Addr) (id : Int) (e' : Ending) (w' : World) : Prop := ∃ L' vl, e' = .returned (.tuple #[vl, erv es (hasE (pab L) id)]) ∧ w'.ownsRow w.heap.size 3 1 vl (comF 41 (pab L) id).2.length (ic (comF 41 (pab L) id).2) ∧ PfR base w p m L (comF 41 (pab L) id).1 w' L'

set_option maxRecDepth 100000 in
set_option maxHeartbeats 4000000 in
theorem fcommit_any {mm : Nat} (hm : mm ≤ 900) (hE : Fe w es) (hB : 5 ≤ base) (h : Pf base w p m L) (hF : Fok mm (pab L)) (id : Int) (hi : Bt id) :
    Calls Tryd.prog 12 #[.pointer (some ⟨p, 0, none⟩), .int .i64 id] w (CoR base w p m L es id) := by
  have HF := hid (ffind_any hE h id hi)
  cases hq : gt L id with
  | none =>
    have hs : gt (pab L) id = none := by rw [gt_pab, hq]; rfl
    have HS : Hid (pto L id = none ∧ hasE (pab L) id = 5) := ⟨by rw [pto, hq]; rfl, by rw [hasE, hs]⟩
    have HX : Hid (∀ q, CoR base w p m L es id (.returned (.tuple #[.slice none 0 0, erv es 5])) (w.drewN q)) := fun q => ⟨L, .slice none 0 0, by rw [HS.out.2], by rw [comF_eq, hs]; exact World.ownsRow_nil _ _ _ _, (PfR.refl h (below_drewN (Below.refl _ _) q)).as (by rw [comF_eq, hs])⟩
    rw [HS.out.1, HS.out.2] at HF
    clear hq h hE HS hF hs
    go_enter Tryd.func12, Tryd.ntmps12
    go_wp2_with fail
    refine HF.out.mono ?_
    rintro e' w1 ⟨rfl, q1, rfl⟩
    rw [ptv_none]
    have HY := hid (HX.out q1)
    rw [erv_succ] at HY ⊢
    go_wp2
    go_ret2
    exact HY.out
  | some e =>
    have hs : gt (pab L) id = some e.s.f := by rw [gt_pab, hq]; rfl
    have HS : Hid (pto L id = some e.g ∧ hasE (pab L) id = 0) := ⟨by rw [pto, hq]; rfl, by rw [hasE, hs]⟩
    rw [HS.out.1, HS.out.2] at HF
    have HC : Hid (∀ W : World, Below w.heap.size w W → (W.cell? ⟨e.g, 0, none⟩ = some (.bool e.s.pe.at_) ∧ W.cell? ⟨e.g, 1, none⟩ = some (.int .i64 e.s.pe.buf) ∧ W.cell? ⟨e.g, 2, none⟩ = some (.slice e.s.pe.dm.a e.s.pe.dm.n e.s.pe.dm.c) ∧ W.cell? ⟨e.g, 3, none⟩ = some (.slice e.s.pe.fr.a e.s.pe.fr.n e.s.pe.fr.c) ∧ W.cell? ⟨e.g, 4, none⟩ = some (.bool e.s.pe.inp) ∧ W.cell? ⟨e.g, 5, none⟩ = some (.bool e.s.pe.all) ∧ W.cell? ⟨e.g, 6, none⟩ = some (.slice e.s.pe.rg.a e.s.pe.rg.n e.s.pe.rg.c) ∧ W.cell? ⟨e.g, 7, none⟩ = some (.bool e.s.pe.ord) ∧ W.cell? ⟨e.g, 8, none⟩ = some (.slice e.s.pe.od.a e.s.pe.od.n e.s.pe.od.c) ∧ W.cell? ⟨e.g, 9, none⟩ = some (.slice e.s.pe.pl.a e.s.pe.pl.n e.s.pe.pl.c)) ∧ (W.cell? ⟨e.g, 10, none⟩ = some (.bool e.s.ca.at_) ∧ W.cell? ⟨e.g, 11, none⟩ = some (.int .i64 e.s.ca.buf) ∧ W.cell? ⟨e.g, 12, none⟩ = some (.slice e.s.ca.dm.a e.s.ca.dm.n e.s.ca.dm.c) ∧ W.cell? ⟨e.g, 13, none⟩ = some (.slice e.s.ca.fr.a e.s.ca.fr.n e.s.ca.fr.c) ∧ W.cell? ⟨e.g, 14, none⟩ = some (.bool e.s.ca.inp) ∧ W.cell? ⟨e.g, 15, none⟩ = some (.bool e.s.ca.all) ∧ W.cell? ⟨e.g, 16, none⟩ = some (.slice e.s.ca.rg.a e.s.ca.rg.n e.s.ca.rg.c) ∧ W.cell? ⟨e.g, 17, none⟩ = some (.bool e.s.ca.ord) ∧ W.cell? ⟨e.g, 18, none⟩ = some (.slice e.s.ca.od.a e.s.ca.od.n e.s.ca.od.c) ∧ W.cell? ⟨e.g, 19, none⟩ = some (.slice e.s.ca.pl.a e.s.ca.pl.n e.s.ca.pl.c)) ∧ e.g < W.heap.size ∧ (∀ j, W.frozen? ⟨e.g, j, none⟩ = false) ∧ e.s.ca.Ok W ∧ e.s.pe.Ok W) := fun W hW => by
      have h1 := h.on hW
      exact ⟨(h1.cells hq).1, (h1.cells hq).2.1, (h1.wlt hq (mem_wb.2 (.inl rfl))).2, h1.fz hq, (h1.rows id e hq).ok.ca, (h1.rows id e hq).ok.pe⟩
    have HFIN : Hid (∀ (W W1 : World) (r : Sx), Below w.heap.size w W → Below W.heap.size W W1 → r.Ok W1 → r.New W.heap.size → r.q = mrg e.s.ca.q e.s.pe.q → W1.ownsRow W.heap.size 46 3 (.slice r.pl.a r.pl.n r.pl.c) r.pl.n (mcs r.pl.l) → r.Plf → PfR base w p m L (upd (pab L) id cacS) (sto (sto W1 e.g 10 r) e.g 0 sx0) (st L id ⟨e.g, { e.s with ca := r, pe := sx0 }⟩)) := fun W W1 r hb hb1 ok nw hq' ho hp => h.com1 hq hb hb1 ok nw hq' ho hp
    obtain ⟨l1, l2, l3⟩ := hF.len hm h hq
    have HL1 := hid l1
    have HL2 := hid l2
    have HG1 : Hid (∀ s', gt (st L id ⟨e.g, s'⟩) id = some ⟨e.g, s'⟩) := fun s' => by rw [gt_st, if_pos rfl, hq]; rfl
    have HFK := hid hF
    have HP := hid h
    have HE := hid hE
    have HS2 := hid hs
    have HS1 := hid HS.out.2
    clear hq h hE HS hF hs l1 l2 l3
    go_enter Tryd.func12, Tryd.ntmps12
    go_wp2_with fail
    refine HF.out.mono ?_
    rintro e' w1 ⟨rfl, q1, hw1⟩
    have HB1 : Hid (Below w.heap.size w w1) := by rw [Hid, hw1]; exact below_drewN (Below.refl _ _) q1
    clear hw1 HF
    rw [ptv_some, erv0]
    go_upto_region 4 with fail
    go_cut [] (fun wc => ∃ r, PfR base w p m L (upd (pab L) id cacS) wc (st L id ⟨e.g, { e.s with ca := r, pe := sx0 }⟩))
    case first =>
      refine wp_region_gate_drew (g := 14) (S := RowKit.Below w.heap.size w) (by kernel_rfl) ?hh (fun hHeld => ?_)
      case hh => exact (Below.on HB1.out (Below.refl _ _).drew)
      generalize w1.drew = W0 at hHeld ⊢
      try dsimp only at hHeld
      refine wpAnyG_take (i := 0) (v := ?_) rfl (by kernel_rfl) (by kernel_rfl) (by kernel_rfl) (by kernel_rfl) (fun _ _ _ h => h) (Or.inl ⟨by kernel_rfl, ?hy0⟩) (by assumption) ?_
      case hy0 => (intro wI hSw; (try dsimp only at hSw); obtain ⟨⟨a0, a1, a2, a3, a4, a5, a6, a7, a8, a9⟩, ⟨b0, b1, b2, b3, b4, b5, b6, b7, b8, b9⟩, t1, t2, -, -⟩ := HC.out _ hSw; go_simp; try with_reducible rfl)
      try simp only [Act.put, List.getElem_toArray, List.getElem_cons_zero, List.setIfInBounds_toArray, List.set_cons_zero, List.set_cons_succ]
      refine wpAnyG_takeFree (i := 1) (v := ?_) rfl (by kernel_rfl) (by kernel_rfl) (by kernel_rfl) (by kernel_rfl) (fun _ _ _ h => h) (Or.inl ⟨by kernel_rfl, ?hy1⟩) (by assumption) ?_
      case hy1 => (intro wI _; go_simp; try with_reducible rfl)
      try simp only [Act.put, List.getElem_toArray, List.getElem_cons_zero, List.getElem_cons_succ, List.setIfInBounds_toArray, List.set_cons_zero, List.set_cons_succ]
      refine wpAnyG_take (i := 2) (v := ?_) rfl (by kernel_rfl) (by kernel_rfl) (by kernel_rfl) (by kernel_rfl) (fun _ _ _ h => h) (Or.inl ⟨by kernel_rfl, ?hy2⟩) (by assumption) ?_
      case hy2 => (intro wI hSw; (try dsimp only at hSw); obtain ⟨⟨a0, a1, a2, a3, a4, a5, a6, a7, a8, a9⟩, ⟨b0, b1, b2, b3, b4, b5, b6, b7, b8, b9⟩, t1, t2, -, -⟩ := HC.out _ hSw; go_simp; try with_reducible rfl)
      try simp only [Act.put, List.getElem_toArray, List.getElem_cons_zero, List.getElem_cons_succ, List.setIfInBounds_toArray, List.set_cons_zero, List.set_cons_succ]
      refine wpAnyG_take (i := 3) (v := ?_) rfl (by kernel_rfl) (by kernel_rfl) (by kernel_rfl) (by kernel_rfl) (fun _ _ _ h => h) (Or.inl ⟨by kernel_rfl, ?hy3⟩) (by assumption) ?_
      case hy3 => (intro wI hSw; (try dsimp only at hSw); obtain ⟨⟨a0, a1, a2, a3, a4, a5, a6, a7, a8, a9⟩, ⟨b0, b1, b2, b3, b4, b5, b6, b7, b8, b9⟩, t1, t2, -, -⟩ := HC.out _ hSw; go_simp; try with_reducible rfl)
      try simp only [Act.put, List.getElem_toArray, List.getElem_cons_zero, List.getElem_cons_succ, List.setIfInBounds_toArray, List.set_cons_zero, List.set_cons_succ]
      refine wpAnyG_take (i := 4) (v := ?_) rfl (by kernel_rfl) (by kernel_rfl) (by kernel_rfl) (by kernel_rfl) (fun _ _ _ h => h) (Or.inl ⟨by kernel_rfl, ?hy4⟩) (by assumption) ?_
      case hy4 => (intro wI hSw; (try dsimp only at hSw); obtain ⟨⟨a0, a1, a2, a3, a4, a5, a6, a7, a8, a9⟩, ⟨b0, b1, b2, b3, b4, b5, b6, b7, b8, b9⟩, t1, t2, -, -⟩ := HC.out _ hSw; go_simp; try with_reducible rfl)
      try simp only [Act.put, List.getElem_toArray, List.getElem_cons_zero, List.getElem_cons_succ, List.setIfInBounds_toArray, List.set_cons_zero, List.set_cons_succ]
      refine wpAnyG_take (i := 5) (v := ?_) rfl (by kernel_rfl) (by kernel_rfl) (by kernel_rfl) (by kernel_rfl) (fun _ _ _ h => h) (Or.inl ⟨by kernel_rfl, ?hy5⟩) (by assumption) ?_
      case hy5 => (intro wI hSw; (try dsimp only at hSw); obtain ⟨⟨a0, a1, a2, a3, a4, a5, a6, a7, a8, a9⟩, ⟨b0, b1, b2, b3, b4, b5, b6, b7, b8, b9⟩, t1, t2, -, -⟩ := HC.out _ hSw; go_simp; try with_reducible rfl)
      try simp only [Act.put, List.getElem_toArray, List.getElem_cons_zero, List.getElem_cons_succ, List.setIfInBounds_toArray, List.set_cons_zero, List.set_cons_succ]
      refine wpAnyG_take (i := 6) (v := ?_) rfl (by kernel_rfl) (by kernel_rfl) (by kernel_rfl) (by kernel_rfl) (fun _ _ _ h => h) (Or.inl ⟨by kernel_rfl, ?hy6⟩) (by assumption) ?_
      case hy6 => (intro wI hSw; (try dsimp only at hSw); obtain ⟨⟨a0, a1, a2, a3, a4, a5, a6, a7, a8, a9⟩, ⟨b0, b1, b2, b3, b4, b5, b6, b7, b8, b9⟩, t1, t2, -, -⟩ := HC.out _ hSw; go_simp; try with_reducible rfl)
      try simp only [Act.put, List.getElem_toArray, List.getElem_cons_zero, List.getElem_cons_succ, List.setIfInBounds_toArray, List.set_cons_zero, List.set_cons_succ]
      refine wpAnyG_take (i := 7) (v := ?_) rfl (by kernel_rfl) (by kernel_rfl) (by kernel_rfl) (by kernel_rfl) (fun _ _ _ h => h) (Or.inl ⟨by kernel_rfl, ?hy7⟩) (by assumption) ?_
      case hy7 => (intro wI hSw; (try dsimp only at hSw); obtain ⟨⟨a0, a1, a2, a3, a4, a5, a6, a7, a8, a9⟩, ⟨b0, b1, b2, b3, b4, b5, b6, b7, b8, b9⟩, t1, t2, -, -⟩ := HC.out _ hSw; go_simp; try with_reducible rfl)
      try simp only [Act.put, List.getElem_toArray, List.getElem_cons_zero, List.getElem_cons_succ, List.setIfInBounds_toArray, List.set_cons_zero, List.set_cons_succ]
      refine wpAnyG_take (i := 8) (v := ?_) rfl (by kernel_rfl) (by kernel_rfl) (by kernel_rfl) (by kernel_rfl) (fun _ _ _ h => h) (Or.inl ⟨by kernel_rfl, ?hy8⟩) (by assumption) ?_
      case hy8 => (intro wI hSw; (try dsimp only at hSw); obtain ⟨⟨a0, a1, a2, a3, a4, a5, a6, a7, a8, a9⟩, ⟨b0, b1, b2, b3, b4, b5, b6, b7, b8, b9⟩, t1, t2, -, -⟩ := HC.out _ hSw; go_simp; try with_reducible rfl)
      try simp only [Act.put, List.getElem_toArray, List.getElem_cons_zero, List.getElem_cons_succ, List.setIfInBounds_toArray, List.set_cons_zero, List.set_cons_succ]
      refine wpAnyG_take (i := 9) (v := ?_) rfl (by kernel_rfl) (by kernel_rfl) (by kernel_rfl) (by kernel_rfl) (fun _ _ _ h => h) (Or.inl ⟨by kernel_rfl, ?hy9⟩) (by assumption) ?_
      case hy9 => (intro wI hSw; (try dsimp only at hSw); obtain ⟨⟨a0, a1, a2, a3, a4, a5, a6, a7, a8, a9⟩, ⟨b0, b1, b2, b3, b4, b5, b6, b7, b8, b9⟩, t1, t2, -, -⟩ := HC.out _ hSw; go_simp; try with_reducible rfl)
      try simp only [Act.put, List.getElem_toArray, List.getElem_cons_zero, List.getElem_cons_succ, List.setIfInBounds_toArray, List.set_cons_zero, List.set_cons_succ]
      refine wpAnyG_takeFree (i := 11) (v := ?_) rfl (by kernel_rfl) (by kernel_rfl) (by kernel_rfl) (by kernel_rfl) (fun _ _ _ h => h) (Or.inl ⟨by kernel_rfl, ?hy11⟩) (by assumption) ?_
      case hy11 => (intro wI _; go_simp; try with_reducible rfl)
      try simp only [Act.put, List.getElem_toArray, List.getElem_cons_zero, List.getElem_cons_succ, List.setIfInBounds_toArray, List.set_cons_zero, List.set_cons_succ]
      refine wpAnyG_ready (rs := [10]) (by kernel_rfl) (by simp) ?_
      refine AllReadyG.cons rfl (fun K hK => ?_) AllReadyG.nil
      go_simp
      go_wp2_with fail
      refine (mergeo_any e.s.ca e.s.pe _ (HC.out _ hHeld).2.2.2.2.1 (HC.out _ hHeld).2.2.2.2.2 HL2.out HL1.out).mono ?_
      rintro e' W10 ⟨r, rfl, okr, nwr, hqr, hbr, owr, plr⟩
      have HX := hid (HFIN.out _ _ r hHeld hbr okr nwr hqr owr plr)
      have hH2 := Below.on hHeld hbr
      refine hK.out _ _ hH2 (fun _ => ?_)
      clear hK K hHeld okr nwr hqr owr plr hbr
      have hHeld := hH2
      clear hH2
      try simp only [Act.put, List.getElem_toArray, List.getElem_cons_zero, List.getElem_cons_succ, List.setIfInBounds_toArray, List.set_cons_zero, List.set_cons_succ]
      refine wpAnyG_take (i := 12) (v := ?_) rfl (by kernel_rfl) (by kernel_rfl) (by kernel_rfl) (by kernel_rfl) (fun _ _ _ h => h) (Or.inl ⟨by kernel_rfl, ?hy12⟩) (by assumption) ?_
      case hy12 => (intro wI hSw; (try dsimp only at hSw); obtain ⟨⟨a0, a1, a2, a3, a4, a5, a6, a7, a8, a9⟩, ⟨b0, b1, b2, b3, b4, b5, b6, b7, b8, b9⟩, t1, t2, -, -⟩ := HC.out _ hSw; go_simp; try with_reducible rfl)
      try simp only [Act.put, List.getElem_toArray, List.getElem_cons_zero, List.getElem_cons_succ, List.setIfInBounds_toArray, List.set_cons_zero, List.set_cons_succ]
      refine wpAnyG_take (i := 13) (v := ?_) rfl (by kernel_rfl) (by kernel_rfl) (by kernel_rfl) (by kernel_rfl) (fun _ _ _ h => h) (Or.inl ⟨by kernel_rfl, ?hy13⟩) (by assumption) ?_
      case hy13 => (intro wI hSw; (try dsimp only at hSw); obtain ⟨⟨a0, a1, a2, a3, a4, a5, a6, a7, a8, a9⟩, ⟨b0, b1, b2, b3, b4, b5, b6, b7, b8, b9⟩, t1, t2, -, -⟩ := HC.out _ hSw; go_simp; try with_reducible rfl)
      try simp only [Act.put, List.getElem_toArray, List.getElem_cons_zero, List.getElem_cons_succ, List.setIfInBounds_toArray, List.set_cons_zero, List.set_cons_succ]
      have hG := hHeld
      clear hHeld
      have hHeld : True := trivial
      refine wpAnyG_gateOp rfl (by kernel_rfl) (fun K hK => ?_)
      obtain ⟨⟨a0, a1, a2, a3, a4, a5, a6, a7, a8, a9⟩, ⟨b0, b1, b2, b3, b4, b5, b6, b7, b8, b9⟩, t1, t2, -, -⟩ := HC.out _ hG
      clear hG
      go_simp
      refine hK.out _ _ trivial (fun _ => ?_)
      clear hK K
      try simp only [Act.put, List.getElem_toArray, List.getElem_cons_zero, List.getElem_cons_succ, List.setIfInBounds_toArray, List.set_cons_zero, List.set_cons_succ]
      refine wpAnyH_take (i := 15) (v := ?_) rfl (by kernel_rfl) (by kernel_rfl) (by kernel_rfl) (fun _ _ _ h => h) (Or.inl ⟨by kernel_rfl, ?hy15⟩) (by assumption) ?_
      case hy15 => (intro wI hSw; (try dsimp only at hSw); go_simp; try with_reducible rfl)
      try simp only [Act.put, List.getElem_toArray, List.getElem_cons_zero, List.getElem_cons_succ, List.setIfInBounds_toArray, List.set_cons_zero, List.set_cons_succ]
      refine wpAnyH_take (i := 16) (v := ?_) rfl (by kernel_rfl) (by kernel_rfl) (by kernel_rfl) (fun _ _ _ h => h) (Or.inl ⟨by kernel_rfl, ?hy16⟩) (by assumption) ?_
      case hy16 => (intro wI hSw; (try dsimp only at hSw); go_simp; try with_reducible rfl)
      try simp only [Act.put, List.getElem_toArray, List.getElem_cons_zero, List.getElem_cons_succ, List.setIfInBounds_toArray, List.set_cons_zero, List.set_cons_succ]
      refine wpAnyH_ready (rs := [17]) (by kernel_rfl) (by simp) ?_
      refine AllReadyH.cons rfl (fun K hK => ?_) AllReadyH.nil
      go_simp
      refine hK.out _ _ trivial (fun _ => ?_)
      clear hK K
      try simp only [Act.put, List.getElem_toArray, List.getElem_cons_zero, List.getElem_cons_succ, List.setIfInBounds_toArray, List.set_cons_zero, List.set_cons_succ]
      refine wpAnyH_done (by kernel_rfl) ?_ _
      go_wp2_with fail
      go_meet
      exact ⟨r, HX.out⟩
    case rest =>
      obtain ⟨r, hR⟩ := hcut
      have hF1 : Fok mm (pab (st L id ⟨e.g, { e.s with ca := r, pe := sx0 }⟩)) := by rw [hR.ab]; exact HFK.out.cacs id
      have hsy : sy (pab (st L id ⟨e.g, { e.s with ca := r, pe := sx0 }⟩)) id = sy (pab L) id := by rw [hR.ab]; exact ((tre_upd _ id cacS (fun _ => ⟨rfl, rfl⟩)).sy id).symm
      have hE1 := HE.out.kb (hR.bel HP.out) hB
      have CSY := hid (fsynced_one hE1 hR.pf hF1.nok id hi)
      rw [hsy] at CSY
      clear HC HFIN HL1 HL2
      cases hsv : sy (pab L) id
      · rw [hsv] at CSY
        have HCOM : Hid (comF 41 (pab L) id = ((kds 41 (upd (pab L) id comS) id []).1, [id] ++ (kds 41 (upd (pab L) id comS) id []).2)) := by
          rw [Hid, comF_eq, HS2.out]
          simp only [hsv]
          exact kds_acc 41 _ id [id] []
        obtain ⟨-, l2, l3⟩ := hF1.len hm hR.pf (HG1.out _)
        have HAP : Hid (∀ W, Below wc.heap.size wc W → Calls Tryd.prog 37 #[.pointer (some ⟨e.g, 0, none⟩)] W fun e' w' => e' = .returned undef ∧ ∃ L2 e2, PfR base w p m L (upd (pab L) id comS) w' L2 ∧ gt L2 id = some e2 ∧ e2.g = e.g) := fun W hW => by
          refine (fapply_any (hR.pf.on hW) (HG1.out _) l2 l3).mono fun e' w' ⟨h1, r2, _, hR2⟩ => ⟨h1, _, ⟨e.g, { { e.s with ca := r, pe := sx0 } with no := r2, ca := sx0 }⟩, (hR.trans ((PfR.refl hR.pf hW).trans hR2)).as ?_, ?_, rfl⟩
          · rw [hR.ab, upd_upd]
            rfl
          · rw [gt_st, if_pos rfl, HG1.out]
            rfl
        have HAB : Hid (∀ (W : World) L2 e2, PfR base w p m L (upd (pab L) id comS) W L2 → gt L2 id = some e2 → Calls Tryd.prog 38 #[.pointer (some ⟨p, 0, none⟩), .pointer (some ⟨e2.g, 0, none⟩)] (W.alloc (.cells #[.int .i64 id] 3)) fun e' w' => ∃ vl, e' = .returned vl ∧ (∃ a c, vl = .slice a (kds 41 (upd (pab L) id comS) id []).2.length c) ∧ Src Tryd.prog 1 22 vl (kds 41 (upd (pab L) id comS) id []).2.length (ic (kds 41 (upd (pab L) id comS) id []).2) w' ∧ (kds 41 (upd (pab L) id comS) id []).2.length ≤ 1000 ∧ w'.ownsRow w.heap.size 3 1 (.slice (some ⟨W.heap.size, 0, none⟩) 1 1) 1 (ic [id]) ∧ w.heap.size ≤ w'.heap.size ∧ ∀ w2 : World, w'.grownBy w2 (some W.heap.size) → ∃ L3, PfR base w p m L (kds 41 (upd (pab L) id comS) id []).1 w2 L3) := fun W L2 e2 hR2 hg2 => by
          have hb := bel_new W (.cells #[.int .i64 id] 3)
          have hF2 : Fok mm (pab L2) := by rw [hR2.ab, show upd (pab L) id comS = upd (upd (pab L) id cacS) id aplS by rw [upd_upd]; rfl]; exact (HFK.out.cacs id).apls id
          have h2 := hR2.pf.on hb
          have hE2 := (HE.out.kb (hR2.bel HP.out) hB).on hb
          have hab2 := hR2.ab
          refine (fapplybelow_any hm hE2 hB h2 hF2 hg2).mono fun e' w' ⟨L3, vl, h1, ho, hR3⟩ => ?_
          rw [hab2] at ho hR3
          obtain ⟨hn1, hn2⟩ := hR2.pf.newb (Nat.le_refl W.heap.size)
          have hws := hR2.kp.size
          have hkp := hR3.kp.size
          rw [size_new] at hkp
          have hbb : W.heap.size ∉ m :: wbs L2 := fun hm' => by
            rcases List.mem_cons.1 hm' with h3 | h3
            · have := hR2.pf.lt.2
              omega
            · exact hn1 h3
          have hB1 : Bk w' W.heap.size 3 #[.int .i64 id] := (bk_new W #[.int .i64 id] 3).kp hR3.kp hbb
          obtain ⟨l, hl1, hl2, hl3, hl4, hl5⟩ := own_sl (l := sg (kds 41 (upd (pab L) id comS) id []).2) (by rw [ic_mcs]; exact ho) (by rw [sg_length]) (sg_size _)
          have hsrc := hl4.src (P := Tryd.prog) (t := 22) (e := 3) Tryd.underlying22
          rw [hl3, ic_mcs, hl2] at hsrc
          have hlen : (kds 41 (upd (pab L) id comS) id []).2.length ≤ 1000 := by
            have hk := kds_length 41 (upd (pab L) id comS) id [] (by rw [← hab2]; exact hF2.inv) (by rw [← hab2]; exact hF2.nof) (by rw [← hab2, gt_pab, hg2]; rfl)
            have hd := dsc_le (upd (pab L) id comS) id
            have hl := hF2.inv.len
            rw [hab2] at hl
            simp only [List.length_nil] at hk
            omega
          refine ⟨vl, h1, ⟨l.a, l.c, by rw [hl1, Sl.v, hl2]⟩, by rw [hl1, Sl.v, hl2]; exact hsrc, hlen, ⟨by simp [ic], .inr ⟨W.heap.size, 1, #[.int .i64 id], rfl, hws, hB1.obj, by omega, by simp [maxLen], by simp, by simp [ic]⟩⟩, by omega, fun w2 hg => ⟨L3, ?_⟩⟩
          have hRR := hR2.trans ((PfR.refl hR2.pf hb).trans hR3)
          refine hRR.ext HP.out hws (fun hm' => ?_) (hR3.ofr _ (by rw [size_new]; omega) hn2) (kp_of_grown hg)
          rcases hR3.new _ hm' with h3 | h3
          · exact hn1 h3
          · rw [size_new] at h3
            omega
        obtain ⟨i0, hi', hz0, hz1, hz2⟩ := infoMP infoM1
        clear hR hF1 hsy hE1 l2 l3 hsv
        go_wp2_with fail
        refine CSY.out.mono ?_
        rintro e' w5 ⟨rfl, q5, hw5⟩
        have HB5 : Hid (Below wc.heap.size wc w5) := by rw [Hid, hw5]; exact below_drewN (Below.refl _ _) q5
        clear hw5 CSY
        go_wp2_with fail
        refine (HAP.out _ HB5.out).mono ?_
        rintro e' w6 ⟨rfl, L2, e2, hR2, hg2, hge⟩
        have HAB2 := hid (HAB.out w6 L2 e2 hR2 hg2)
        rw [hge] at HAB2
        clear HAP HAB hR2 hg2 hge HB5
        go_wp2_with fail
        refine HAB2.out.mono ?_
        rintro e' w7 ⟨vl, rfl, ⟨va, vc, rfl⟩, hsrc, hln, how, hsz, hfin⟩
        have HSRC := hid hsrc
        have HOW := hid how
        have HFN := hid hfin
        have HEND : Hid (∀ (v8 : Value) (w8 : World), w8.ownsRow w.heap.size 3 1 v8 (1 + (kds 41 (upd (pab L) id comS) id []).2.length) (ic [id] ++ ic (kds 41 (upd (pab L) id comS) id []).2) → w7.grownBy w8 (some w6.heap.size) → CoR base w p m L es id (.returned (.tuple #[v8, .nilIface])) w8) := fun v8 w8 o8 g8 => by
          obtain ⟨L3, hR3⟩ := HFN.out w8 g8
          refine ⟨L3, v8, by rw [HS1.out]; rfl, ?_, hR3.as (by rw [HCOM.out])⟩
          rw [HCOM.out]
          show w8.ownsRow _ _ _ v8 ([id] ++ _).length (ic ([id] ++ _))
          rw [ic_append, List.length_append]
          exact o8
        clear hsrc how hfin HAB2 HFN HCOM
        generalize (kds 41 (upd (pab L) id comS) id []).2.length = kl at *
        go_wp2_with (at_builtin; refine wpList_append_own_at _ rfl (.tmp 39) (.tmp 42) 22 22 rfl w.heap.size 3 i0 (.int .i64 0) 1 8 Tryd.underlying22 hi' hz0 hz1 hz2 rfl _ _ _ rfl HOW.out _ _ _ rfl HSRC.out (by simp only [maxLen]; omega) (fitsM (by omega) (by decide)) hsz ?_; intro v8 w8 o8 g8 a8; have HX := hid (HEND.out v8 w8 o8 g8); clear o8 g8 a8)
        go_ret2
        exact HX.out
      · rw [hsv] at CSY
        have HX : Hid (∀ q, CoR base w p m L es id (.returned (.tuple #[.slice none 0 0, .nilIface])) (wc.drewN q)) := fun q => ⟨_, .slice none 0 0, by rw [HS1.out]; rfl, by rw [comF_eq, HS2.out]; simp only [hsv]; exact World.ownsRow_nil _ _ _ _, (hR.trans (PfR.refl hR.pf (below_drewN (Below.refl _ _) q))).as (by rw [comF_eq, HS2.out]; simp only [hsv]; exact hR.ab)⟩
        clear hR hF1 hsy hE1 hsv
        go_wp2_with fail
        refine CSY.out.mono ?_
        rintro e' w5 ⟨rfl, q5, rfl⟩
        have HY := hid (HX.out q5)
        go_wp2
        go_ret2
        exact HY.out
end Go.Proofs.YtdgknofpkafppaaDoor

/- Forests, reckoned out: the same functions, such that a closed forest's answers can be told. No program. -/
namespace Go.Proofs.YtdgknofpkafppaaDoor
open Go Go.RowKit

def ancB : Nat → Fo → Int → Int → Bool
  | 0, _, _, _ => false
  | n + 1, F, x, id => match gt F x with
    | none => false
    | some s => x == id || ancB n F s.par id
def syB : Nat → Fo → Int → Bool
  | 0, _, _ => false
  | n + 1, F, x => match gt F x with
    | none => false
    | some s => s.par != 0 && (s.syn || syB n F s.par)
theorem ancB_eq {F : Fo} (hA : Acy F) : ∀ (n : Nat) (x id : Int), dpt F x ≤ n → ancB n F x id = anc F x id
  | 0, x, id, h => by
    cases hg : gt F x with
    | none => rw [anc_none hg]; rfl
    | some s =>
      have := dpt_lt hA hg
      omega
  | n + 1, x, id, h => by
    rw [ancB]
    cases hg : gt F x with
    | none => rw [anc_none hg]
    | some s =>
      have := dpt_lt hA hg
      rw [anc_some hg]
      dsimp only
      rw [ancB_eq hA n s.par id (by omega)]
theorem syB_eq {F : Fo} (hA : Acy F) : ∀ (n : Nat) (x : Int), dpt F x ≤ n → syB n F x = sy F x
  | 0, x, h => by
    cases hg : gt F x with
    | none => rw [sy_none hg]; rfl
    | some s =>
      have := dpt_lt hA hg
      omega
  | n + 1, x, h => by
    rw [syB]
    cases hg : gt F x with
    | none => rw [sy_none hg]
    | some s =>
      have := dpt_lt hA hg
      rw [sy_some hg]
      dsimp only
      rw [syB_eq hA n s.par (by omega)]
theorem Inv.anc {F : Fo} (h : Inv F) (x id : Int) : Proofs.YtdgknofpkafppaaDoor.anc F x id = ancB 40 F x id := (ancB_eq h.acy 40 x id (Nat.le_trans (dpt_le F x) h.len)).symm
theorem Inv.sy {F : Fo} (h : Inv F) (x : Int) : Proofs.YtdgknofpkafppaaDoor.sy F x = syB 40 F x := (syB_eq h.acy 40 x (Nat.le_trans (dpt_le F x) h.len)).symm
def subEB (F : Fo) (id p : Int) : Nat := match gt F id, gt F p with
  | some s, some _ => if s.par ≠ 0 then 10 else if ancB 40 F p id then 11 else 0
  | _, _ => 5
def subFB (F : Fo) (id p : Int) : Fo := if subEB F id p = 0 then upd (upd F id fun s => { s with par := p, syn := true }) p (fun q => plcS [id, 0, 0] (ordS (sg (dr id (un1 (lat q)) ++ [id])) q)) else F
theorem Inv.subE {F : Fo} (h : Inv F) (id p : Int) : Proofs.YtdgknofpkafppaaDoor.subE F id p = subEB F id p := by
  unfold Proofs.YtdgknofpkafppaaDoor.subE subEB
  rw [h.anc]
  rfl
theorem Inv.subF {F : Fo} (h : Inv F) (id p : Int) : Proofs.YtdgknofpkafppaaDoor.subF F id p = subFB F id p := by
  unfold Proofs.YtdgknofpkafppaaDoor.subF subFB
  rw [h.subE]
def kstB (kd : Fo → Int → List Int → Fo × List Int) (r : Fo × List Int) (k : Int) : Fo × List Int := match gt r.1 k with
  | none => r
  | some c => if k = 0 ∨ syB 40 r.1 k = false then r else if non c.ca then kd r.1 k r.2 else kd (upd r.1 k aplS) k (r.2 ++ [k])
def kdsB : Nat → Fo → Int → List Int → Fo × List Int
  | 0, F, _, l => (F, l)
  | n + 1, F, x, l => match gt F x with
    | none => (F, l)
    | some s => (un1 s.no.od).foldl (kstB (kdsB n)) (F, l)
theorem kdsB_eq : ∀ (n : Nat) (F : Fo) (x : Int) (l : List Int), Inv F → kds n F x l = kdsB n F x l
  | 0, _, _, _, _ => rfl
  | n + 1, F, x, l, h => by
    rw [kds_succ, kdsB]
    cases hgx : gt F x with
    | none => rfl
    | some s =>
      dsimp only
      have hst : ∀ (r : Fo × List Int) (k : Int), Inv r.1 → kst n r k = kstB (kdsB n) r k ∧ Inv (kst n r k).1 := fun r k hr => by
        unfold kst kstB
        rw [hr.sy]
        cases hgk : gt r.1 k with
        | none => exact ⟨rfl, hr⟩
        | some c =>
          dsimp only
          split
          · exact ⟨rfl, hr⟩
          · split
            · exact ⟨kdsB_eq n _ _ _ hr, (kds_inv n _ _ _ hr).1⟩
            · exact ⟨kdsB_eq n _ _ _ (hr.apls k), (kds_inv n _ _ _ (hr.apls k)).1⟩
      have hf : ∀ (L : List Int) (r : Fo × List Int), Inv r.1 → L.foldl (kst n) r = L.foldl (kstB (kdsB n)) r := fun L => by
        induction L with
        | nil => exact fun r _ => rfl
        | cons k L ih =>
          intro r hr
          obtain ⟨h1, h2⟩ := hst r k hr
          rw [List.foldl_cons, List.foldl_cons, ← h1]
          exact ih _ h2
      exact hf _ (F, l) h
def comB (F : Fo) (id : Int) : Fo × List Int := match gt F id with
  | none => (F, [])
  | some _ => if syB 40 F id then (upd F id cacS, []) else kdsB 41 (upd F id comS) id [id]
theorem Inv.comF {F : Fo} (h : Inv F) (id : Int) : Proofs.YtdgknofpkafppaaDoor.comF 41 F id = comB F id := by
  rw [comF_eq, comB, h.sy]
  cases hgx : gt F id with
  | none => rfl
  | some s =>
    dsimp only
    split
    · rfl
    · exact kdsB_eq 41 _ _ _ (h.coms id)

/-- awake's forest. -/
def awF : Fo := upd (subFB (addF (addF [] 1) 2) 2 1) 2 (frmS 9)
theorem aw_facts : addE [] 1 = 0 ∧ addE (addF [] 1) 2 = 0 ∧ subEB (addF (addF [] 1) 2) 2 1 = 0 ∧ hasE (subFB (addF (addF [] 1) 2) 2 1) 2 = 0 ∧ hasE awF 2 = 0 ∧ (comB awF 2).2 = [] ∧ hasE (comB awF 2).1 1 = 0 ∧ (comB (comB awF 2).1 1).2 = [1, 2] := by decide
end Go.Proofs.YtdgknofpkafppaaDoor

/- The program's forest: Pending, Cached, Current; Take. Written by forest/mk_pfu.py. -/
namespace Go.Proofs.YtdgknofpkafppaaDoor
open Go Go.RowKit

variable {base B : Nat} {w u w' : World} {p m : Nat} {L L' : Po} {F : Fo} {id : Int} {es : List Addr} {e : Ps}
theorem mrg_sq0 (q : Sq) : mrg q sq0 = q := by
  cases q
  simp [mrg, sq0, puts]
/-- A state of a surface, or nothing. -/
def sho (x : Sr → Sx) (L : Po) (id : Int) : Sq := match gt L id with
  | none => sq0
  | some e => (x e.s).q

set_option maxRecDepth 100000 in
set_option maxHeartbeats 2000000 in
theorem fshow_any (hE : Fe w es) (h : Pf base w p m L) (id : Int) (hi : Bt id) (x : Sr → Sx) (g : Nat) (eg : ∀ args w, (callFunc g args).run Tryd.prog w = .ok (.enter g args) w) (hok : ∀ e, gt L id = some e → (x e.s).Ok w ∧ (x e.s).Len 1000)
    (hg : ∀ e, gt L id = some e → ∀ W, Below w.heap.size w W → Calls Tryd.prog g (#[.pointer (some ⟨e.g, 0, none⟩)] ++ #[]) W fun e' w' => e' = .returned (.agg #[.bool (x e.s).at_, .int .i64 (x e.s).buf, .slice (x e.s).dm.a (x e.s).dm.n (x e.s).dm.c, .slice (x e.s).fr.a (x e.s).fr.n (x e.s).fr.c, .bool (x e.s).inp, .bool (x e.s).all, .slice (x e.s).rg.a (x e.s).rg.n (x e.s).rg.c, .bool (x e.s).ord, .slice (x e.s).od.a (x e.s).od.n (x e.s).od.c, .slice (x e.s).pl.a (x e.s).pl.n (x e.s).pl.c]) ∧ Below W.heap.size W w') :
    Calls Tryd.prog 39 #[.pointer (some ⟨p, 0, none⟩), .int .i64 id, .func (.func g) #[] #[]] w (Rst w (sho x L id)) := by
  have hb0 := bel_new w (.cells #[.bool sx0.at_, .int .i64 sx0.buf, .slice sx0.dm.a sx0.dm.n sx0.dm.c, .slice sx0.fr.a sx0.fr.n sx0.fr.c, .bool sx0.inp, .bool sx0.all, .slice sx0.rg.a sx0.rg.n sx0.rg.c, .bool sx0.ord, .slice sx0.od.a sx0.od.n sx0.od.c, .slice sx0.pl.a sx0.pl.n sx0.pl.c] 35)
  have hz := bs_new w sx0
  have HF := hid (ffind_any (hE.on hb0) (h.on hb0) id hi)
  have HZ := hid hz
  have HB := hid hb0
  cases hq : gt L id with
  | none =>
    have HS : Hid (pto L id = none ∧ hasE (pab L) id = 5) := ⟨by rw [pto, hq]; rfl, by rw [hasE, gt_pab, hq]; rfl⟩
    have HV : Hid (sho x L id = sq0) := by rw [Hid, sho, hq]
    rw [HS.out.1, HS.out.2] at HF
    rw [HV.out]
    clear hq h hE HS hok hg hb0 hz HV
    go_enter Tryd.func39, Tryd.ntmps39
    go_wp2_with fail
    refine HF.out.mono ?_
    rintro e' w1 ⟨rfl, q1, hw1⟩
    have hb1 : Below w.heap.size w w1 := by rw [hw1]; exact below_drewN HB.out q1
    have HZ1 : Hid (Bs w1 w.heap.size sx0) := by rw [Hid, hw1]; exact HZ.out.on (below_drewN (Below.refl _ _) q1)
    have HB1 := hid hb1
    have hlt := HZ1.out.lt
    obtain ⟨ra, rb, rc, rd, re, rf, rg, rh, ri, rj⟩ := HZ1.out.all
    have fz := HZ1.out.fz
    rw [ptv_none, erv_succ]
    clear hw1 hb1 HF HZ HB
    simp only [sx0, sl0] at ra rb rc rd re rf rg rh ri rj
    go_wp2
    refine bodyPost_ret (results_cell_row rfl _ _ w.heap.size _ _ _ _ rfl (HZ1.out.stz sx0).bk.obj Tryd.underlying35 rfl infoSt) rfl ?_
    exact ⟨sx0, rfl, sx0_ok _, ⟨(fun y e => by cases e), (fun y e => by cases e), (fun y e => by cases e), (fun y e => by cases e), (fun y e => by cases e)⟩, rfl, below_stz HB1.out (Nat.le_refl _) sx0⟩
  | some e =>
    have HS : Hid (pto L id = some e.g ∧ hasE (pab L) id = 0) := ⟨by rw [pto, hq]; rfl, by rw [hasE, gt_pab, hq]; rfl⟩
    have HV : Hid (sho x L id = (x e.s).q) := by rw [Hid, sho, hq]
    have HG := hid (hg e hq)
    obtain ⟨ok1, l1⟩ := hok e hq
    have HOK := hid ok1
    have HL := hid l1
    rw [HS.out.1, HS.out.2] at HF
    rw [HV.out]
    generalize x e.s = y at *
    clear hq h hE HS hok hg hb0 hz HV ok1 l1
    go_enter Tryd.func39, Tryd.ntmps39
    go_wp2_with fail
    refine HF.out.mono ?_
    rintro e' w1 ⟨rfl, q1, hw1⟩
    have hb1 : Below w.heap.size w w1 := by rw [hw1]; exact below_drewN HB.out q1
    have HZ1 : Hid (Bs w1 w.heap.size sx0) := by rw [Hid, hw1]; exact HZ.out.on (below_drewN (Below.refl _ _) q1)
    have HB1 := hid hb1
    rw [ptv_some, erv0]
    clear hw1 hb1 HF HZ HB
    go_wp2_with fail
    refine (HG.out _ HB1.out).mono ?_
    rintro e' w2 ⟨rfl, hb2⟩
    have HB2 := hid (Below.on HB1.out hb2)
    have HZ2 := hid (HZ1.out.on hb2)
    have CM := hid (merge_any y sx0 w2 (HOK.out.on HB2.out) (sx0_ok w2) HL.out ⟨by simp [sx0, sl0], by simp [sx0, sl0], by simp [sx0, sl0], by simp [sx0, sl0], by simp [sx0, sl0]⟩)
    simp only [sx0_q, mrg_sq0] at CM
    clear hb2 HG HB1 HZ1
    go_wp2_with fail
    refine CM.out.mono ?_
    rintro e' w3 ⟨r, rfl, okr, nwr, hqr, hbr⟩
    have HZ3 := hid (HZ2.out.on hbr)
    have hlt := HZ3.out.lt
    obtain ⟨ra, rb, rc, rd, re, rf, rg, rh, ri, rj⟩ := HZ3.out.all
    have fz := HZ3.out.fz
    have hw2 : w.heap.size < w2.heap.size := HZ2.out.lt
    have HX : Hid (r.Ok (stz w3 w.heap.size r) ∧ r.New w.heap.size ∧ r.q = y.q ∧ Below w.heap.size w (stz w3 w.heap.size r)) := ⟨okr.stz nwr hw2 r, nwr.low (Nat.le_of_lt hw2), hqr, below_stz (Below.on HB2.out hbr) (Nat.le_refl _) r⟩
    clear okr nwr hqr hbr CM HZ2 HB2 hw2
    simp only [sx0, sl0] at ra rb rc rd re rf rg rh ri rj
    go_wp2
    refine bodyPost_ret (results_cell_row rfl _ _ w.heap.size _ _ _ _ rfl (HZ3.out.stz r).bk.obj Tryd.underlying35 rfl infoSt) rfl ?_
    exact ⟨r, rfl, HX.out⟩


set_option maxRecDepth 100000 in
set_option maxHeartbeats 1000000 in
theorem fcached1_any (h : Pf base w p m L) (he : gt L id = some e) (u : World) (hu : Below w.heap.size w u) :
    Calls Tryd.prog 48 (#[.pointer (some ⟨e.g, 0, none⟩)] ++ #[]) u fun e' w' => e' = .returned (.agg #[.bool e.s.ca.at_, .int .i64 e.s.ca.buf, .slice e.s.ca.dm.a e.s.ca.dm.n e.s.ca.dm.c, .slice e.s.ca.fr.a e.s.ca.fr.n e.s.ca.fr.c, .bool e.s.ca.inp, .bool e.s.ca.all, .slice e.s.ca.rg.a e.s.ca.rg.n e.s.ca.rg.c, .bool e.s.ca.ord, .slice e.s.ca.od.a e.s.ca.od.n e.s.ca.od.c, .slice e.s.ca.pl.a e.s.ca.pl.n e.s.ca.pl.c]) ∧ Below u.heap.size u w' := by
  have hb0 := bel_new u (.cells #[.bool sx0.at_, .int .i64 sx0.buf, .slice sx0.dm.a sx0.dm.n sx0.dm.c, .slice sx0.fr.a sx0.fr.n sx0.fr.c, .bool sx0.inp, .bool sx0.all, .slice sx0.rg.a sx0.rg.n sx0.rg.c, .bool sx0.ord, .slice sx0.od.a sx0.od.n sx0.od.c, .slice sx0.pl.a sx0.pl.n sx0.pl.c] 35)
  have h1 := (h.on hu).on hb0
  have HZ := hid (bs_new u sx0)
  have HB := hid hb0
  obtain ⟨c0, c1, c2, c3, c4, c5, c6, c7, c8, c9⟩ := (h1.cells he).2.1
  have l1 := (h1.wlt he (mem_wb.2 (.inl rfl))).2
  obtain ⟨ra, rb, rc, rd, re, rf, rg, rh, ri, rj⟩ := HZ.out.all
  have fz := HZ.out.fz
  have hlt := HZ.out.lt
  clear h he hu hb0 h1
  simp only [sx0, sl0] at ra rb rc rd re rf rg rh ri rj c0 c1 c2 c3 c4 c5 c6 c7 c8 c9 fz hlt l1
  go_enter Tryd.func48, Tryd.ntmps48
  go_wp2
  refine bodyPost_ret (results_cell_row rfl _ _ u.heap.size _ _ _ _ rfl (bs_new u e.s.ca).bk.obj Tryd.underlying35 rfl infoSt) rfl ?_
  exact ⟨rfl, bel_new u _⟩
set_option maxRecDepth 100000 in
set_option maxHeartbeats 1000000 in
theorem fcached_any {mm : Nat} (hm : mm ≤ 900) (hE : Fe w es) (h : Pf base w p m L) (hF : Fok mm (pab L)) (id : Int) (hi : Bt id) :
    Calls Tryd.prog 19 #[.pointer (some ⟨p, 0, none⟩), .int .i64 id] w (Rst w (sho Sr.ca L id)) := by
  have hb0 := bel_new w (.cells #[.bool sx0.at_, .int .i64 sx0.buf, .slice sx0.dm.a sx0.dm.n sx0.dm.c, .slice sx0.fr.a sx0.fr.n sx0.fr.c, .bool sx0.inp, .bool sx0.all, .slice sx0.rg.a sx0.rg.n sx0.rg.c, .bool sx0.ord, .slice sx0.od.a sx0.od.n sx0.od.c, .slice sx0.pl.a sx0.pl.n sx0.pl.c] 35)
  have CS := hid (fshow_any (hE.on hb0) (h.on hb0) id hi Sr.ca 48 (enters_of Tryd.func48 (by kernel_rfl) rfl) (fun e he => ⟨((h.on hb0).rows id e he).ok.ca, (hF.len hm h he).2.1⟩) (fun e he W hW => fcached1_any (h.on hb0) he W hW))
  have HZ := hid (bs_new w sx0)
  have HB := hid hb0
  clear hE h hF hb0
  go_enter Tryd.func19, Tryd.ntmps19
  go_wp2_with fail
  refine CS.out.mono ?_
  rintro e' w3 ⟨r, rfl, okr, nwr, hqr, hbr⟩
  have HZ3 := hid (HZ.out.on hbr)
  have hlt := HZ3.out.lt
  obtain ⟨ra, rb, rc, rd, re, rf, rg, rh, ri, rj⟩ := HZ3.out.all
  have fz := HZ3.out.fz
  rw [size_new] at nwr
  have HX : Hid (r.Ok (stz w3 w.heap.size r) ∧ r.New w.heap.size ∧ r.q = sho Sr.ca L id ∧ Below w.heap.size w (stz w3 w.heap.size r)) := ⟨okr.stz nwr (by omega) r, nwr.low (by omega), hqr, below_stz (Below.on HB.out hbr) (Nat.le_refl _) r⟩
  clear okr nwr hqr hbr CS HZ HB
  simp only [sx0, sl0] at ra rb rc rd re rf rg rh ri rj
  go_wp2
  refine bodyPost_ret (results_cell_row rfl _ _ w.heap.size _ _ _ _ rfl (HZ3.out.stz r).bk.obj Tryd.underlying35 rfl infoSt) rfl ?_
  exact ⟨r, rfl, HX.out⟩

set_option maxRecDepth 100000 in
set_option maxHeartbeats 1000000 in
theorem fcurrent1_any (h : Pf base w p m L) (he : gt L id = some e) (u : World) (hu : Below w.heap.size w u) :
    Calls Tryd.prog 40 (#[.pointer (some ⟨e.g, 0, none⟩)] ++ #[]) u fun e' w' => e' = .returned (.agg #[.bool e.s.no.at_, .int .i64 e.s.no.buf, .slice e.s.no.dm.a e.s.no.dm.n e.s.no.dm.c, .slice e.s.no.fr.a e.s.no.fr.n e.s.no.fr.c, .bool e.s.no.inp, .bool e.s.no.all, .slice e.s.no.rg.a e.s.no.rg.n e.s.no.rg.c, .bool e.s.no.ord, .slice e.s.no.od.a e.s.no.od.n e.s.no.od.c, .slice e.s.no.pl.a e.s.no.pl.n e.s.no.pl.c]) ∧ Below u.heap.size u w' := by
  have hb0 := bel_new u (.cells #[.bool sx0.at_, .int .i64 sx0.buf, .slice sx0.dm.a sx0.dm.n sx0.dm.c, .slice sx0.fr.a sx0.fr.n sx0.fr.c, .bool sx0.inp, .bool sx0.all, .slice sx0.rg.a sx0.rg.n sx0.rg.c, .bool sx0.ord, .slice sx0.od.a sx0.od.n sx0.od.c, .slice sx0.pl.a sx0.pl.n sx0.pl.c] 35)
  have h1 := (h.on hu).on hb0
  have HZ := hid (bs_new u sx0)
  have HB := hid hb0
  obtain ⟨c0, c1, c2, c3, c4, c5, c6, c7, c8, c9⟩ := (h1.cells he).2.2
  have l1 := (h1.wlt he (mem_wb.2 (.inl rfl))).2
  obtain ⟨ra, rb, rc, rd, re, rf, rg, rh, ri, rj⟩ := HZ.out.all
  have fz := HZ.out.fz
  have hlt := HZ.out.lt
  clear h he hu hb0 h1
  simp only [sx0, sl0] at ra rb rc rd re rf rg rh ri rj c0 c1 c2 c3 c4 c5 c6 c7 c8 c9 fz hlt l1
  go_enter Tryd.func40, Tryd.ntmps40
  go_wp2
  refine bodyPost_ret (results_cell_row rfl _ _ u.heap.size _ _ _ _ rfl (bs_new u e.s.no).bk.obj Tryd.underlying35 rfl infoSt) rfl ?_
  exact ⟨rfl, bel_new u _⟩
set_option maxRecDepth 100000 in
set_option maxHeartbeats 1000000 in
theorem fcurrent_any {mm : Nat} (hm : mm ≤ 900) (hE : Fe w es) (h : Pf base w p m L) (hF : Fok mm (pab L)) (id : Int) (hi : Bt id) :
    Calls Tryd.prog 13 #[.pointer (some ⟨p, 0, none⟩), .int .i64 id] w (Rst w (sho Sr.no L id)) := by
  have hb0 := bel_new w (.cells #[.bool sx0.at_, .int .i64 sx0.buf, .slice sx0.dm.a sx0.dm.n sx0.dm.c, .slice sx0.fr.a sx0.fr.n sx0.fr.c, .bool sx0.inp, .bool sx0.all, .slice sx0.rg.a sx0.rg.n sx0.rg.c, .bool sx0.ord, .slice sx0.od.a sx0.od.n sx0.od.c, .slice sx0.pl.a sx0.pl.n sx0.pl.c] 35)
  have CS := hid (fshow_any (hE.on hb0) (h.on hb0) id hi Sr.no 40 (enters_of Tryd.func40 (by kernel_rfl) rfl) (fun e he => ⟨((h.on hb0).rows id e he).ok.no, (hF.len hm h he).2.2⟩) (fun e he W hW => fcurrent1_any (h.on hb0) he W hW))
  have HZ := hid (bs_new w sx0)
  have HB := hid hb0
  clear hE h hF hb0
  go_enter Tryd.func13, Tryd.ntmps13
  go_wp2_with fail
  refine CS.out.mono ?_
  rintro e' w3 ⟨r, rfl, okr, nwr, hqr, hbr⟩
  have HZ3 := hid (HZ.out.on hbr)
  have hlt := HZ3.out.lt
  obtain ⟨ra, rb, rc, rd, re, rf, rg, rh, ri, rj⟩ := HZ3.out.all
  have fz := HZ3.out.fz
  rw [size_new] at nwr
  have HX : Hid (r.Ok (stz w3 w.heap.size r) ∧ r.New w.heap.size ∧ r.q = sho Sr.no L id ∧ Below w.heap.size w (stz w3 w.heap.size r)) := ⟨okr.stz nwr (by omega) r, nwr.low (by omega), hqr, below_stz (Below.on HB.out hbr) (Nat.le_refl _) r⟩
  clear okr nwr hqr hbr CS HZ HB
  simp only [sx0, sl0] at ra rb rc rd re rf rg rh ri rj
  go_wp2
  refine bodyPost_ret (results_cell_row rfl _ _ w.heap.size _ _ _ _ rfl (HZ3.out.stz r).bk.obj Tryd.underlying35 rfl infoSt) rfl ?_
  exact ⟨r, rfl, HX.out⟩

end Go.Proofs.YtdgknofpkafppaaDoor

/- The library's maps.Keys, slices.Sorted and slices.Sort at int, as this program bears them (laid by the kit's own tool, in plain words). -/
namespace Go.Proofs.YtdgknofpkafppaaDoor
open Go Go.RowKit Go.Maps Go.Sort Go.Shelf

def keysA_ren : Go.Shelf.Ren := ⟨fun | 7 => 54 | 10 => 70 | n => n, fun | 23 => 52 | 26 => 3 | 3 => 55 | 28 => 85 | 0 => 0 | 27 => 84 | 33 => 39 | 4 => 4 | n => n, fun | n => n⟩
theorem keysA : Go.Proofs.SlLaysZI.n7 Tryd.prog keysA_ren := {
  mixed := by kernel_rfl
  f7 := ⟨Tryd.f54.name, by decide, Tryd.func54.trans (congrArg some (by kernel_rfl))⟩
  f10 := ⟨Tryd.f70.name, by decide, Tryd.func70.trans (congrArg some (by kernel_rfl))⟩
  t0 := Tryd.underlying0
  a0 := Tryd.isAgg0
  z0 := Tryd.sizeOf0
  v0 := Tryd.zeroValue0
  t4 := Tryd.underlying4
  a4 := Tryd.isAgg4
  z4 := Tryd.sizeOf4
  v4 := Tryd.zeroValue4
  t23 := Tryd.underlying52
  a23 := Tryd.isAgg52
  z23 := Tryd.sizeOf52
  v23 := Tryd.zeroValue52
  t26 := Tryd.underlying3
  a26 := Tryd.isAgg3
  z26 := Tryd.sizeOf3
  v26 := Tryd.zeroValue3
  t27 := Tryd.underlying84
  a27 := Tryd.isAgg84
  z27 := Tryd.sizeOf84
  v27 := Tryd.zeroValue84
  t28 := Tryd.underlying85
  a28 := Tryd.isAgg85
  z28 := Tryd.sizeOf85
  v28 := Tryd.zeroValue85
  t33 := Tryd.underlying39
  a33 := Tryd.isAgg39
  z33 := Tryd.sizeOf39
  v33 := Tryd.zeroValue39 }
def sortedA_ren : Go.Shelf.Ren := ⟨fun | 6 => 53 | 8 => 69 | 9 => 43 | 11 => 90 | 13 => 65 | 12 => 64 | 23 => 85 | 24 => 86 | 14 => 76 | 15 => 77 | 16 => 78 | 17 => 79 | 18 => 80 | 19 => 81 | 20 => 82 | 21 => 83 | 22 => 84 | 25 => 94 | 26 => 95 | 27 => 96 | 28 => 97 | 29 => 98 | 30 => 99 | 31 => 100 | n => n, fun | 26 => 3 | 28 => 85 | 24 => 22 | 0 => 0 | 3 => 3 | 37 => 98 | 48 => 118 | 50 => 120 | 4 => 4 | 40 => 111 | 39 => 110 | 45 => 115 | 5 => 5 | 9 => 9 | 51 => 131 | 55 => 135 | 57 => 148 | 58 => 149 | 33 => 39 | n => n, fun | n => n⟩
theorem sortedA : Go.Proofs.SlLaysZI.n6 Tryd.prog sortedA_ren := {
  mixed := by kernel_rfl
  f6 := ⟨Tryd.f53.name, by decide, Tryd.func53.trans (congrArg some (by kernel_rfl))⟩
  f8 := ⟨Tryd.f69.name, by decide, Tryd.func69.trans (congrArg some (by kernel_rfl))⟩
  f11 := ⟨Tryd.f90.name, by decide, Tryd.func90.trans (congrArg some (by kernel_rfl))⟩
  t0 := Tryd.underlying0
  a0 := Tryd.isAgg0
  z0 := Tryd.sizeOf0
  v0 := Tryd.zeroValue0
  t24 := Tryd.underlying22
  a24 := Tryd.isAgg22
  z24 := Tryd.sizeOf22
  v24 := Tryd.zeroValue22
  t26 := Tryd.underlying3
  a26 := Tryd.isAgg3
  z26 := Tryd.sizeOf3
  v26 := Tryd.zeroValue3
  t28 := Tryd.underlying85
  a28 := Tryd.isAgg85
  z28 := Tryd.sizeOf85
  v28 := Tryd.zeroValue85
  i26 := by kernel_rfl }
def sortA_ren : Go.Shelf.Ren := ⟨fun | 5 => 43 | 8 => 65 | 7 => 64 | 19 => 85 | 20 => 86 | 10 => 76 | 11 => 77 | 12 => 78 | 13 => 79 | 14 => 80 | 15 => 81 | 16 => 82 | 17 => 83 | 18 => 84 | 30 => 94 | 31 => 95 | 32 => 96 | 33 => 97 | 34 => 98 | 35 => 99 | 40 => 100 | n => n, fun | 23 => 22 | 25 => 3 | 3 => 3 | 32 => 98 | 22 => 22 | 0 => 0 | 44 => 118 | 46 => 120 | 4 => 4 | 36 => 111 | 35 => 110 | 41 => 115 | 5 => 5 | 9 => 9 | 53 => 131 | 57 => 135 | 63 => 148 | 64 => 149 | n => n, fun | n => n⟩
theorem sortA : Go.Proofs.SlLaysM.n5 Tryd.prog sortA_ren := {
  mixed := by kernel_rfl
  f5 := ⟨Tryd.f43.name, by decide, Tryd.func43.trans (congrArg some (by kernel_rfl))⟩
  f7 := ⟨Tryd.f64.name, by decide, Tryd.func64.trans (congrArg some (by kernel_rfl))⟩
  f8 := Tryd.func65.trans (congrArg some (by kernel_rfl))
  f10 := ⟨Tryd.f76.name, by decide, Tryd.func76.trans (congrArg some (by kernel_rfl))⟩
  f11 := ⟨Tryd.f77.name, by decide, Tryd.func77.trans (congrArg some (by kernel_rfl))⟩
  f12 := ⟨Tryd.f78.name, by decide, Tryd.func78.trans (congrArg some (by kernel_rfl))⟩
  f13 := ⟨Tryd.f79.name, by decide, Tryd.func79.trans (congrArg some (by kernel_rfl))⟩
  f14 := ⟨Tryd.f80.name, by decide, Tryd.func80.trans (congrArg some (by kernel_rfl))⟩
  f15 := ⟨Tryd.f81.name, by decide, Tryd.func81.trans (congrArg some (by kernel_rfl))⟩
  f16 := ⟨Tryd.f82.name, by decide, Tryd.func82.trans (congrArg some (by kernel_rfl))⟩
  f17 := ⟨Tryd.f83.name, by decide, Tryd.func83.trans (congrArg some (by kernel_rfl))⟩
  f18 := ⟨Tryd.f84.name, by decide, Tryd.func84.trans (congrArg some (by kernel_rfl))⟩
  f19 := Tryd.func85.trans (congrArg some (by kernel_rfl))
  f20 := Tryd.func86.trans (congrArg some (by kernel_rfl))
  f30 := ⟨Tryd.f94.name, by decide, Tryd.func94.trans (congrArg some (by kernel_rfl))⟩
  f31 := Tryd.func95.trans (congrArg some (by kernel_rfl))
  f32 := Tryd.func96.trans (congrArg some (by kernel_rfl))
  f33 := ⟨Tryd.f97.name, by decide, Tryd.func97.trans (congrArg some (by kernel_rfl))⟩
  f34 := ⟨Tryd.f98.name, by decide, Tryd.func98.trans (congrArg some (by kernel_rfl))⟩
  f35 := ⟨Tryd.f99.name, by decide, Tryd.func99.trans (congrArg some (by kernel_rfl))⟩
  f40 := ⟨Tryd.f100.name, by decide, Tryd.func100.trans (congrArg some (by kernel_rfl))⟩
  t0 := Tryd.underlying0
  a0 := Tryd.isAgg0
  z0 := Tryd.sizeOf0
  v0 := Tryd.zeroValue0
  t3 := Tryd.underlying3
  a3 := Tryd.isAgg3
  z3 := Tryd.sizeOf3
  v3 := Tryd.zeroValue3
  t4 := Tryd.underlying4
  a4 := Tryd.isAgg4
  z4 := Tryd.sizeOf4
  v4 := Tryd.zeroValue4
  t5 := Tryd.underlying5
  a5 := Tryd.isAgg5
  z5 := Tryd.sizeOf5
  v5 := Tryd.zeroValue5
  t9 := Tryd.underlying9
  a9 := Tryd.isAgg9
  z9 := Tryd.sizeOf9
  v9 := Tryd.zeroValue9
  t22 := Tryd.underlying22
  a22 := Tryd.isAgg22
  z22 := Tryd.sizeOf22
  v22 := Tryd.zeroValue22
  t23 := Tryd.underlying22
  a23 := Tryd.isAgg22
  z23 := Tryd.sizeOf22
  v23 := Tryd.zeroValue22
  t25 := Tryd.underlying3
  a25 := Tryd.isAgg3
  z25 := Tryd.sizeOf3
  v25 := Tryd.zeroValue3
  t32 := Tryd.underlying98
  a32 := Tryd.isAgg98
  z32 := Tryd.sizeOf98
  v32 := Tryd.zeroValue98
  t35 := Tryd.underlying110
  a35 := Tryd.isAgg110
  z35 := Tryd.sizeOf110
  v35 := Tryd.zeroValue110
  t36 := Tryd.underlying111
  a36 := Tryd.isAgg111
  z36 := Tryd.sizeOf111
  v36 := Tryd.zeroValue111
  t41 := Tryd.underlying115
  a41 := Tryd.isAgg115
  z41 := Tryd.sizeOf115
  v41 := Tryd.zeroValue115
  t44 := Tryd.underlying118
  a44 := Tryd.isAgg118
  z44 := Tryd.sizeOf118
  v44 := Tryd.zeroValue118
  t46 := Tryd.underlying120
  a46 := Tryd.isAgg120
  z46 := Tryd.sizeOf120
  v46 := Tryd.zeroValue120
  t53 := Tryd.underlying131
  a53 := Tryd.isAgg131
  z53 := Tryd.sizeOf131
  v53 := Tryd.zeroValue131
  t57 := Tryd.underlying135
  a57 := Tryd.isAgg135
  z57 := Tryd.sizeOf135
  v57 := Tryd.zeroValue135
  t63 := Tryd.underlying148
  a63 := Tryd.isAgg148
  z63 := Tryd.sizeOf148
  v63 := Tryd.zeroValue148
  t64 := Tryd.underlying149
  a64 := Tryd.isAgg149
  z64 := Tryd.sizeOf149
  v64 := Tryd.zeroValue149 }


def compA_ren : Go.Shelf.Ren := ⟨fun | 43 => 44 | n => n, fun | 22 => 22 | 23 => 3 | 3 => 3 | 4 => 4 | 0 => 0 | n => n, fun | n => n⟩
theorem compA : Go.Proofs.SlLaysN.n43 Tryd.prog compA_ren := {
  mixed := by kernel_rfl
  f43 := ⟨Tryd.f44.name, by decide, Tryd.func44.trans (congrArg some (by kernel_rfl))⟩
  t0 := Tryd.underlying0
  a0 := Tryd.isAgg0
  z0 := Tryd.sizeOf0
  v0 := Tryd.zeroValue0
  t3 := Tryd.underlying3
  a3 := Tryd.isAgg3
  z3 := Tryd.sizeOf3
  v3 := Tryd.zeroValue3
  t4 := Tryd.underlying4
  a4 := Tryd.isAgg4
  z4 := Tryd.sizeOf4
  v4 := Tryd.zeroValue4
  t22 := Tryd.underlying22
  a22 := Tryd.isAgg22
  z22 := Tryd.sizeOf22
  v22 := Tryd.zeroValue22
  t23 := Tryd.underlying3
  a23 := Tryd.isAgg3
  z23 := Tryd.sizeOf3
  v23 := Tryd.zeroValue3
  i23 := by kernel_rfl }
end Go.Proofs.YtdgknofpkafppaaDoor
