/- Lemmas that the proof leans on. -/
import Derived.Test.YtdgknofpkafppaaGreatDoorB15
namespace Go.Proofs.YtdgknofpkafppaaGreatDoor
open Go Go.RowKit
open List renaming getElem_toArray → lqA, getElem_cons_zero → lqB, getElem_cons_succ → lqC, setIfInBounds_toArray → lqD, set_cons_zero → lqE, set_cons_succ → lqF
set_option maxRecDepth 100000
set_option maxHeartbeats 1000000
section
variable {base : Nat} {w0 w w' : World} {p m : Nat} {L : Po} {id : Int} {es : List Addr} {e : Ps}
theorem own_sl {w : World} {base T m n : Nat} {v : Value} {l : List (List Int)} (h : w.ownsRow base T m v n (mcs l)) (hn : l.length = n) (hs : ∀ y ∈ l, y.length = m) : ∃ s : Sl, v = s.v ∧ s.n = n ∧ s.l = l ∧ RdM m w s.a s.n s.c s.l ∧ w.ownsRow base T m s.v s.n (mcs s.l) := by
 subst hn
 rcases h.2 with ⟨rfl, h0⟩ | ⟨g, cap, cur, rfl, hb, hg, hn, hm, _, _⟩
 ·have hl := List.eq_nil_of_length_eq_zero h0
  subst hl
  exact ⟨sl0, rfl, rfl, rfl, RdM.nil m w, h⟩
 ·refine ⟨⟨some ⟨g, 0, none⟩, l.length, cap, l⟩, rfl, rfl, rfl, ⟨rfl, hn, hm, (fun h => by cases h), fun _ => ⟨g, 0, rfl, (h.lt g rfl).2, fun j y hy i z hz => ?_⟩, hs⟩, h⟩
  have hlt : j * m + i < l.length * m := by
   rw [← mcs_length hs]
   exact (List.getElem?_eq_some_iff.1 (mcs_at hs hy hz)).1
  rw [Nat.zero_add, h.cellAt _ hlt]
  exact mcs_at hs hy hz
theorem fatt1_any (h : Pf base w0 p m L) (he : gt L id = some e) (hb : Below w0.heap.size w0 w) (c : Nat) (b : Int) (hc : w.cell? ⟨c, 0, none⟩ = some (.int .i64 b)) (hce : c ≠ e.g) :
  Calls Tryz.prog 59 (#[.pointer (some ⟨e.g, 0, none⟩)] ++ #[.pointer (some ⟨c, 0, none⟩)]) w fun e' w' => e' = .returned undef ∧ ∃ L', PfR base w0 p m L (upd (pab L) id (attS b)) w' L' := by
 have HR := hid (h.putAtt he (w := w.drew) (Below.on hb (Below.refl _ _).drew) b)
 have hw := h.on hb
 have c1 : w.cell? ⟨e.g, 0, none⟩ = some (.bool e.s.pe.at_) := hw.cell he
 have c2 : w.cell? ⟨e.g, 1, none⟩ = some (.int .i64 e.s.pe.buf) := hw.cell he
 have f1 := hw.fz he
 have hlt := (hw.wlt he (mem_wb.2 (.inl rfl))).2
 have hlc := World.block_lt_of_cell? _ _ hc
 clear hw h hb he
 go_enter Tryz.func59, Tryz.ntmps59
 go_wp2_with fail
 go_region
 go_wp2_with fail
 go_end0
 exact ⟨rfl, _, HR.out⟩
theorem fattach_any (hE : Fe w es) (h : Pf base w p m L) (id : Int) (hi : Bt id) (b : Int) :
  Calls Tryz.prog 13 #[.pointer (some ⟨p, 0, none⟩), .int .i64 id, .int .i64 b] w fun e w' => e = .returned (erv es (hasE (pab L) id)) ∧ ∃ L', PfR base w p m L (upd (pab L) id (attS b)) w' L' := by
 have hb := bel_new w (.cells #[.int .i64 b] 3)
 have HT := hid (fturn_any (hE.on hb) (h.on hb) id hi 59 #[.pointer (some ⟨w.heap.size, 0, none⟩)] (enters_of Tryz.func59 (by kernel_rfl) rfl) (fun w' => ∃ L', PfR base w p m L (upd (pab L) id (attS b)) w' L')
  (fun hq q => ⟨L, (PfR.refl h (Below.on hb (below_drewN (Below.refl _ _) q))).as (by rw [upd, gt_pab, hq]; rfl)⟩)
  (fun e he q => fatt1_any h he (Below.on hb (below_drewN (Below.refl _ _) q)) w.heap.size b (by
   simp) (fun e1 => by have := (h.wlt he (mem_wb.2 (.inl rfl))).2; omega)))
 clear hE h hb
 go_enter Tryz.func13, Tryz.ntmps13
 go_wp2_with fail
 refine HT.out.mono ?_
 rintro e w1 ⟨rfl, hx⟩
 have HX := hid hx
 clear hx
 go_wp2
 go_ret
 exact ⟨rfl, HX.out⟩
theorem ffrm_fin (h : Pf base w0 p m L) (he : gt L id = some e) {W w1 : World} (hb : Below w0.heap.size w0 W) (b : Int) {v' : Value} (ho : w1.ownsRow base 3 1 v' (e.s.pe.fr.n + 1) (mcs e.s.pe.fr.l ++ mcs [[b]])) (hg : W.grownBy w1 e.s.pe.fr.v.ownBlock) (hv : v'.ownBlock = e.s.pe.fr.v.ownBlock ∨ v'.ownBlock = some W.heap.size) :
  ∃ l : Sl, v' = .slice l.a l.n l.c ∧ w1.cell? ⟨e.g, 3, none⟩ = some (.slice e.s.pe.fr.a e.s.pe.fr.n e.s.pe.fr.c) ∧ (∀ j, w1.frozen? ⟨e.g, j, none⟩ = false) ∧ e.g < w1.heap.size ∧ ∃ L', PfR base w0 p m L (upd (pab L) id (frmS b)) (w1.setCell ⟨e.g, 3, none⟩ (.slice l.a l.n l.c)) L' := by
 have hW := h.on hb
 have hok := (hW.rows id e he)
 have hlen := hok.ok.pe.fr.len
 obtain ⟨l, rfl, hn, hl, hr, ho2⟩ := own_sl (l := e.s.pe.fr.l ++ [[b]]) (by rw [mcs_append]; exact ho) (by rw [List.length_append, hlen]; rfl) (fun y hy => by
  rcases List.mem_append.1 hy with hy | hy
  ·exact hok.ok.pe.fr.size y hy
  ·simp only [List.mem_cons, List.not_mem_nil, or_false] at hy
   rw [hy]
   rfl)
 have hge : some e.g ≠ e.s.pe.fr.v.ownBlock := fun e1 => (h.sep id e he).1.g e.s.pe.fr (by simp [wos]) (bl_mem.2 e1.symm)
 have hobj : w1.heap[e.g]? = W.heap[e.g]? := hg.block _ (hW.wlt he (mem_wb.2 (.inl rfl))).2 hge
 have hB : Bk w1 e.g 80 (pcs e.s).toArray := ⟨hobj.trans (hW.srf id e he)⟩
 refine ⟨l, rfl, hB.cell 3, fun j => hB.fz j, hB.lt, _, h.putFr he hb ho2 hr hg (fun x hx => ?_) hl⟩
 rcases hv with h1 | h1
 ·rw [bl_mem, h1] at hx
  exact .inl (bl_mem.2 hx)
 ·rw [bl_mem, h1] at hx
  cases hx
  exact .inr hb.size
theorem ffrm1_any (h : Pf base w0 p m L) (he : gt L id = some e) (hb : Below w0.heap.size w0 w) (hn : e.s.pe.fr.n ≤ 1000000) (c : Nat) (b : Int) (hc : w.cell? ⟨c, 0, none⟩ = some (.int .i64 b)) :
  Calls Tryz.prog 61 (#[.pointer (some ⟨e.g, 0, none⟩)] ++ #[.pointer (some ⟨c, 0, none⟩)]) w fun e' w' => e' = .returned undef ∧ ∃ L', PfR base w0 p m L (upd (pab L) id (frmS b)) w' L' := by
 have HF : Hid (∀ (W w1 : World) (v' : Value), Below w.heap.size w W → w1.ownsRow base 3 1 v' (e.s.pe.fr.n + 1) (mcs e.s.pe.fr.l ++ ic [b]) → W.grownBy w1 e.s.pe.fr.v.ownBlock → (v'.ownBlock = e.s.pe.fr.v.ownBlock ∨ v'.ownBlock = some W.heap.size) → ∃ l : Sl, v' = .slice l.a l.n l.c ∧ w1.cell? ⟨e.g, 3, none⟩ = some (.slice e.s.pe.fr.a e.s.pe.fr.n e.s.pe.fr.c) ∧ (∀ j, w1.frozen? ⟨e.g, j, none⟩ = false) ∧ e.g < w1.heap.size ∧ ∃ L', PfR base w0 p m L (upd (pab L) id (frmS b)) (w1.setCell ⟨e.g, 3, none⟩ (.slice l.a l.n l.c)) L') := fun W w1 v' hW ho hg hv => ffrm_fin h he (Below.on hb hW) b ho hg hv
 have HC : Hid (∀ W : World, Below w.heap.size w W → W.cell? ⟨e.g, 3, none⟩ = some (.slice e.s.pe.fr.a e.s.pe.fr.n e.s.pe.fr.c) ∧ W.cell? ⟨c, 0, none⟩ = some (.int .i64 b) ∧ e.g < W.heap.size ∧ c < W.heap.size) := fun W hW =>
  ⟨(h.on (Below.on hb hW)).cell he, by rw [hW.cell (World.block_lt_of_cell? _ _ hc)]; exact hc, ((h.on (Below.on hb hW)).wlt he (mem_wb.2 (.inl rfl))).2, Nat.lt_of_lt_of_le (World.block_lt_of_cell? _ _ hc) hW.size⟩
 have HO : Hid (∀ W : World, Below w.heap.size w W → W.ownsRow base 3 1 (.slice e.s.pe.fr.a e.s.pe.fr.n e.s.pe.fr.c) e.s.pe.fr.n (mcs e.s.pe.fr.l) ∧ base ≤ W.heap.size) := fun W hW => ⟨((h.on (Below.on hb hW)).rows id e he).fr, by
  have := (h.on (Below.on hb hW)).lt.1
  have := h.lop
  omega⟩
 obtain ⟨i0, hi, hz0, hz1, hz2⟩ := infoMP infoM1
 clear h he hb hc
 go_enter Tryz.func61, Tryz.ntmps61
 go_upto_region 0 with fail
 refine wp_region_gate_drew (g := 7) (S := RowKit.Below w.heap.size w) (by kernel_rfl) ?hh (fun hHeld => ?_)
 case hh => exact ((Below.refl _ _).drew)
 generalize w.drew = W0 at hHeld ⊢
 try dsimp only at hHeld
 refine wpAnyG_takeFree (i := 0) (v := ?_) rfl (by kernel_rfl) (by kernel_rfl) (by kernel_rfl) (by kernel_rfl) (fun _ _ _ h => h) (Or.inl ⟨by kernel_rfl, ?hy0⟩) (by assumption) ?_
 case hy0 => (intro wI _; go_simp; try with_reducible rfl)
 try simp only [Act.put, lqA, lqB, lqD, lqE, lqF]
 refine wpAnyG_take (i := 1) (v := ?_) rfl (by kernel_rfl) (by kernel_rfl) (by kernel_rfl) (by kernel_rfl) (fun _ _ _ h => h) (Or.inl ⟨by kernel_rfl, ?hy1⟩) (by assumption) ?_
 case hy1 => (intro wI hSw; (try dsimp only at hSw); obtain ⟨t1, t2, t3, t4⟩ := HC.out _ hSw; go_simp; try with_reducible rfl)
 try simp only [Act.put, lqA, lqB, lqC, lqD, lqE, lqF]
 refine wpAnyG_take (i := 2) (v := ?_) rfl (by kernel_rfl) (by kernel_rfl) (by kernel_rfl) (by kernel_rfl) (fun _ _ _ h => h) (Or.inl ⟨by kernel_rfl, ?hy2⟩) (by assumption) ?_
 case hy2 => (intro wI hSw; (try dsimp only at hSw); obtain ⟨t1, t2, t3, t4⟩ := HC.out _ hSw; go_simp; try with_reducible rfl)
 try simp only [Act.put, lqA, lqB, lqC, lqD, lqE, lqF]
 refine wpAnyG_take (i := 3) (v := ?_) rfl (by kernel_rfl) (by kernel_rfl) (by kernel_rfl) (by kernel_rfl) (fun _ _ _ h => h) (Or.inl ⟨by kernel_rfl, ?hy3⟩) (by assumption) ?_
 case hy3 => (intro wI hSw; (try dsimp only at hSw); obtain ⟨t1, t2, t3, t4⟩ := HC.out _ hSw; go_simp; try with_reducible rfl)
 try simp only [Act.put, lqA, lqB, lqC, lqD, lqE, lqF]
 refine wpAnyG_take (i := 4) (v := ?_) rfl (by kernel_rfl) (by kernel_rfl) (by kernel_rfl) (by kernel_rfl) (fun _ _ _ h => h) (Or.inl ⟨by kernel_rfl, ?hy4⟩) (by assumption) ?_
 case hy4 => (intro wI hSw; (try dsimp only at hSw); obtain ⟨t1, t2, t3, t4⟩ := HC.out _ hSw; go_simp; try with_reducible rfl)
 try simp only [Act.put, lqA, lqB, lqC, lqD, lqE, lqF]
 refine wpAnyG_take (i := 5) (v := ?_) rfl (by kernel_rfl) (by kernel_rfl) (by kernel_rfl) (by kernel_rfl) (fun _ _ _ h => h) (Or.inl ⟨by kernel_rfl, ?hy5⟩) (by assumption) ?_
 case hy5 => (intro wI hSw; (try dsimp only at hSw); obtain ⟨t1, t2, t3, t4⟩ := HC.out _ hSw; go_simp; try with_reducible rfl)
 try simp only [Act.put, lqA, lqB, lqC, lqD, lqE, lqF]
 refine wpAnyG_ready (rs := [6]) (by kernel_rfl) (by simp) ?_
 refine AllReadyG.cons rfl (fun K hK => ?_) AllReadyG.nil
 have hb := Below.on hHeld (bel_new W0 (.cells #[.int .i64 b] 3))
 have HS := hid (srcLit W0 b)
 go_simp
 refine hK.out _ _ hb (fun _ => ?_)
 clear hK K hHeld
 generalize W0.alloc (.cells #[.int .i64 b] 3) = W6 at *
 have hHeld := hb
 clear hb
 try simp only [Act.put, lqA, lqB, lqC, lqD, lqE, lqF]
 have hG := hHeld
 clear hHeld
 have hHeld : True := trivial
 refine wpAnyG_gateOp rfl (by kernel_rfl) (fun K hK => ?_)
 refine step_appP _ (by kernel_rfl) (.tmp 7) (.tmp 9) 40 40 rfl base 3 i0 (.int .i64 0) 1 8 Tryz.underlying40 hi hz0 hz1 hz2 rfl _ _ _ (by simp [Act.eval]) (HO.out _ hG).1 _ _ _ (by simp [Act.eval]) HS.out (by simp only [maxLen]; omega) (fitsM (by omega) (by decide)) (HO.out _ hG).2 ?_
 intro v2 W7 o2 g2 p2
 obtain ⟨l2, rfl, d1, d2, d3, d4⟩ := HF.out _ _ _ hG o2 g2 p2
 have HX := hid d4
 clear d4 o2 g2 p2
 refine hK.out _ _ trivial (fun _ => ?_)
 clear hK K
 try simp only [Act.put, lqA, lqB, lqC, lqD, lqE, lqF]
 refine wpAnyH_take (i := 8) (v := ?_) rfl (by kernel_rfl) (by kernel_rfl) (by kernel_rfl) (fun _ _ _ h => h) (Or.inl ⟨by kernel_rfl, ?hy8⟩) (by assumption) ?_
 case hy8 => (intro wI hSw; (try dsimp only at hSw); go_simp; try with_reducible rfl)
 try simp only [Act.put, lqA, lqB, lqC, lqD, lqE, lqF]
 refine wpAnyH_take (i := 9) (v := ?_) rfl (by kernel_rfl) (by kernel_rfl) (by kernel_rfl) (fun _ _ _ h => h) (Or.inl ⟨by kernel_rfl, ?hy9⟩) (by assumption) ?_
 case hy9 => (intro wI hSw; (try dsimp only at hSw); go_simp; try with_reducible rfl)
 try simp only [Act.put, lqA, lqB, lqC, lqD, lqE, lqF]
 refine wpAnyH_ready (rs := [10]) (by kernel_rfl) (by simp) ?_
 refine AllReadyH.cons rfl (fun K hK => ?_) AllReadyH.nil
 go_simp
 refine hK.out _ _ trivial (fun _ => ?_)
 clear hK K
 try simp only [Act.put, lqA, lqB, lqC, lqD, lqE, lqF]
 refine wpAnyH_done (by kernel_rfl) ?_ _
 go_wp2_with fail
 go_end0
 exact ⟨rfl, HX.out⟩
theorem fframe_any (hE : Fe w es) (h : Pf base w p m L) (id : Int) (hi : Bt id) (hn : ∀ e, gt L id = some e → e.s.pe.fr.n ≤ 1000000) (b : Int) :
  Calls Tryz.prog 15 #[.pointer (some ⟨p, 0, none⟩), .int .i64 id, .int .i64 b] w fun e w' => e = .returned (erv es (hasE (pab L) id)) ∧ ∃ L', PfR base w p m L (upd (pab L) id (frmS b)) w' L' := by
 have hb := bel_new w (.cells #[.int .i64 b] 3)
 have HT := hid (fturn_any (hE.on hb) (h.on hb) id hi 61 #[.pointer (some ⟨w.heap.size, 0, none⟩)] (enters_of Tryz.func61 (by kernel_rfl) rfl) (fun w' => ∃ L', PfR base w p m L (upd (pab L) id (frmS b)) w' L')
  (fun hq q => ⟨L, (PfR.refl h (Below.on hb (below_drewN (Below.refl _ _) q))).as (by rw [upd, gt_pab, hq]; rfl)⟩)
  (fun e he q => ffrm1_any h he (Below.on hb (below_drewN (Below.refl _ _) q)) (hn e he) w.heap.size b (by simp)))
 clear hE h hb
 go_enter Tryz.func15, Tryz.ntmps15
 go_wp2_with fail
 refine HT.out.mono ?_
 rintro e w1 ⟨rfl, hx⟩
 have HX := hid hx
 clear hx
 go_wp2
 go_ret
 exact ⟨rfl, HX.out⟩
theorem src4 (w : World) (z0 z1 z2 z3 : Int) : Src Tryz.prog 4 31 (.slice (some ⟨w.heap.size, 0, none⟩) 1 1) 1 (mcs [[z0, z1, z2, z3]]) (w.alloc (.cells #[.int .i64 z0, .int .i64 z1, .int .i64 z2, .int .i64 z3] 30)) :=
 Src.ofSlice (P := Tryz.prog) _ Tryz.underlying31 ⟨w.heap.size, 0, none⟩ 1 1 (mcs [[z0, z1, z2, z3]]) rfl (fun q u hu => by
  match q, hu with
  | 0, hu => cases hu; simp [Addr.add]
  | 1, hu => cases hu; simp [Addr.add]
  | 2, hu => cases hu; simp [Addr.add]
  | 3, hu => cases hu; simp [Addr.add]
  | q + 4, hu => simp [mcs] at hu) (mcs_one _)
theorem fdmg_fin (h : Pf base w0 p m L) (he : gt L id = some e) {W w1 : World} (hb : Below w0.heap.size w0 W) (b : List Int) (hbl : b.length = 4) {v' : Value} (ho : w1.ownsRow base 30 4 v' (e.s.pe.dm.n + 1) (mcs e.s.pe.dm.l ++ mcs [b])) (hg : W.grownBy w1 e.s.pe.dm.v.ownBlock) (hv : v'.ownBlock = e.s.pe.dm.v.ownBlock ∨ v'.ownBlock = some W.heap.size) :
  ∃ l : Sl, v' = .slice l.a l.n l.c ∧ w1.cell? ⟨e.g, 2, none⟩ = some (.slice e.s.pe.dm.a e.s.pe.dm.n e.s.pe.dm.c) ∧ (∀ j, w1.frozen? ⟨e.g, j, none⟩ = false) ∧ e.g < w1.heap.size ∧ ∃ L', PfR base w0 p m L (upd (pab L) id (dmgS b)) (w1.setCell ⟨e.g, 2, none⟩ (.slice l.a l.n l.c)) L' := by
 have hW := h.on hb
 have hok := (hW.rows id e he)
 have hlen := hok.ok.pe.dm.len
 obtain ⟨l, rfl, hn, hl, hr, ho2⟩ := own_sl (l := e.s.pe.dm.l ++ [b]) (by rw [mcs_append]; exact ho) (by rw [List.length_append, hlen]; rfl) (fun y hy => by
  rcases List.mem_append.1 hy with hy | hy
  ·exact hok.ok.pe.dm.size y hy
  ·simp only [List.mem_cons, List.not_mem_nil, or_false] at hy
   rw [hy]
   exact hbl)
 have hge : some e.g ≠ e.s.pe.dm.v.ownBlock := fun e1 => (h.sep id e he).1.g e.s.pe.dm (by simp [wos]) (bl_mem.2 e1.symm)
 have hobj : w1.heap[e.g]? = W.heap[e.g]? := hg.block _ (hW.wlt he (mem_wb.2 (.inl rfl))).2 hge
 have hB : Bk w1 e.g 80 (pcs e.s).toArray := ⟨hobj.trans (hW.srf id e he)⟩
 refine ⟨l, rfl, hB.cell 2, fun j => hB.fz j, hB.lt, _, h.putDm he hb ho2 hr hg (fun x hx => ?_) hl⟩
 rcases hv with h1 | h1
 ·rw [bl_mem, h1] at hx
  exact .inl (bl_mem.2 hx)
 ·rw [bl_mem, h1] at hx
  cases hx
  exact .inr hb.size
theorem fdmg1_any (h : Pf base w0 p m L) (he : gt L id = some e) (hb : Below w0.heap.size w0 w) (hn : e.s.pe.dm.n ≤ 1000000) (c : Nat) (z0 z1 z2 z3 : Int) (hc : Bk w c 30 #[.int .i64 z0, .int .i64 z1, .int .i64 z2, .int .i64 z3]) :
  Calls Tryz.prog 60 (#[.pointer (some ⟨e.g, 0, none⟩)] ++ #[.pointer (some ⟨c, 0, none⟩)]) w fun e' w' => e' = .returned undef ∧ ∃ L', PfR base w0 p m L (upd (pab L) id (dmgS [z0, z1, z2, z3])) w' L' := by
 have HF : Hid (∀ (W w1 : World) (v' : Value), Below w.heap.size w W → w1.ownsRow base 30 4 v' (e.s.pe.dm.n + 1) (mcs e.s.pe.dm.l ++ mcs [[z0, z1, z2, z3]]) → W.grownBy w1 e.s.pe.dm.v.ownBlock → (v'.ownBlock = e.s.pe.dm.v.ownBlock ∨ v'.ownBlock = some W.heap.size) → ∃ l : Sl, v' = .slice l.a l.n l.c ∧ w1.cell? ⟨e.g, 2, none⟩ = some (.slice e.s.pe.dm.a e.s.pe.dm.n e.s.pe.dm.c) ∧ (∀ j, w1.frozen? ⟨e.g, j, none⟩ = false) ∧ e.g < w1.heap.size ∧ ∃ L', PfR base w0 p m L (upd (pab L) id (dmgS [z0, z1, z2, z3])) (w1.setCell ⟨e.g, 2, none⟩ (.slice l.a l.n l.c)) L') := fun W w1 v' hW ho hg hv => fdmg_fin h he (Below.on hb hW) [z0, z1, z2, z3] rfl ho hg hv
 have HC : Hid (∀ W : World, Below w.heap.size w W → W.cell? ⟨e.g, 2, none⟩ = some (.slice e.s.pe.dm.a e.s.pe.dm.n e.s.pe.dm.c) ∧ e.g < W.heap.size ∧ c < W.heap.size ∧ W.cell? ⟨c, 0, none⟩ = some (.int .i64 z0) ∧ W.cell? ⟨c, 1, none⟩ = some (.int .i64 z1) ∧ W.cell? ⟨c, 2, none⟩ = some (.int .i64 z2) ∧ W.cell? ⟨c, 3, none⟩ = some (.int .i64 z3)) := fun W hW =>
  ⟨(h.on (Below.on hb hW)).cell he, ((h.on (Below.on hb hW)).wlt he (mem_wb.2 (.inl rfl))).2, (hc.on hW).lt, (hc.on hW).cell 0, (hc.on hW).cell 1, (hc.on hW).cell 2, (hc.on hW).cell 3⟩
 have HO : Hid (∀ W : World, Below w.heap.size w W → W.ownsRow base 30 4 (.slice e.s.pe.dm.a e.s.pe.dm.n e.s.pe.dm.c) e.s.pe.dm.n (mcs e.s.pe.dm.l) ∧ base ≤ W.heap.size) := fun W hW => ⟨((h.on (Below.on hb hW)).rows id e he).dm, by
  have := (h.on (Below.on hb hW)).lt.1
  have := h.lop
  omega⟩
 obtain ⟨i0, hi, hz0, hz1, hz2⟩ := infoMP infoM4
 clear h he hb hc
 go_enter Tryz.func60, Tryz.ntmps60
 go_upto_region 0 with fail
 refine wp_region_gate_drew (g := 7) (S := RowKit.Below w.heap.size w) (by kernel_rfl) ?hh (fun hHeld => ?_)
 case hh => exact ((Below.refl _ _).drew)
 generalize w.drew = W0 at hHeld ⊢
 try dsimp only at hHeld
 refine wpAnyG_takeFree (i := 0) (v := ?_) rfl (by kernel_rfl) (by kernel_rfl) (by kernel_rfl) (by kernel_rfl) (fun _ _ _ h => h) (Or.inl ⟨by kernel_rfl, ?hy0⟩) (by assumption) ?_
 case hy0 => (intro wI _; go_simp; try with_reducible rfl)
 try simp only [Act.put, lqA, lqB, lqD, lqE, lqF]
 refine wpAnyG_take (i := 1) (v := ?_) rfl (by kernel_rfl) (by kernel_rfl) (by kernel_rfl) (by kernel_rfl) (fun _ _ _ h => h) (Or.inl ⟨by kernel_rfl, ?hy1⟩) (by assumption) ?_
 case hy1 => (intro wI hSw; (try dsimp only at hSw); obtain ⟨t1, t2, t3, t4, t5, t6, t7⟩ := HC.out _ hSw; go_simp; try with_reducible rfl)
 try simp only [Act.put, lqA, lqB, lqC, lqD, lqE, lqF]
 refine wpAnyG_take (i := 2) (v := ?_) rfl (by kernel_rfl) (by kernel_rfl) (by kernel_rfl) (by kernel_rfl) (fun _ _ _ h => h) (Or.inl ⟨by kernel_rfl, ?hy2⟩) (by assumption) ?_
 case hy2 => (intro wI hSw; (try dsimp only at hSw); obtain ⟨t1, t2, t3, t4, t5, t6, t7⟩ := HC.out _ hSw; go_simp; try with_reducible rfl)
 try simp only [Act.put, lqA, lqB, lqC, lqD, lqE, lqF]
 refine wpAnyG_take (i := 3) (v := ?_) rfl (by kernel_rfl) (by kernel_rfl) (by kernel_rfl) (by kernel_rfl) (fun _ _ _ h => h) (Or.inl ⟨by kernel_rfl, ?hy3⟩) (by assumption) ?_
 case hy3 => (intro wI hSw; (try dsimp only at hSw); obtain ⟨t1, t2, t3, t4, t5, t6, t7⟩ := HC.out _ hSw; go_simp; try with_reducible rfl)
 try simp only [Act.put, lqA, lqB, lqC, lqD, lqE, lqF]
 refine wpAnyG_take (i := 4) (v := ?_) rfl (by kernel_rfl) (by kernel_rfl) (by kernel_rfl) (by kernel_rfl) (fun _ _ _ h => h) (Or.inl ⟨by kernel_rfl, ?hy4⟩) (by assumption) ?_
 case hy4 => (intro wI hSw; (try dsimp only at hSw); obtain ⟨t1, t2, t3, t4, t5, t6, t7⟩ := HC.out _ hSw; go_simp; try with_reducible rfl)
 try simp only [Act.put, lqA, lqB, lqC, lqD, lqE, lqF]
 refine wpAnyG_take (i := 5) (v := ?_) rfl (by kernel_rfl) (by kernel_rfl) (by kernel_rfl) (by kernel_rfl) (fun _ _ _ h => h) (Or.inl ⟨by kernel_rfl, ?hy5⟩) (by assumption) ?_
 case hy5 => (intro wI hSw; (try dsimp only at hSw); obtain ⟨t1, t2, t3, t4, t5, t6, t7⟩ := HC.out _ hSw; go_simp; try with_reducible rfl)
 try simp only [Act.put, lqA, lqB, lqC, lqD, lqE, lqF]
 refine wpAnyG_ready (rs := [6]) (by kernel_rfl) (by simp) ?_
 refine AllReadyG.cons rfl (fun K hK => ?_) AllReadyG.nil
 have hb := Below.on hHeld (bel_new W0 (.cells #[.int .i64 z0, .int .i64 z1, .int .i64 z2, .int .i64 z3] 30))
 have HS := hid (src4 W0 z0 z1 z2 z3)
 go_simp
 refine hK.out _ _ hb (fun _ => ?_)
 clear hK K hHeld
 generalize W0.alloc (.cells #[.int .i64 z0, .int .i64 z1, .int .i64 z2, .int .i64 z3] 30) = W6 at *
 have hHeld := hb
 clear hb
 try simp only [Act.put, lqA, lqB, lqC, lqD, lqE, lqF]
 have hG := hHeld
 clear hHeld
 have hHeld : True := trivial
 refine wpAnyG_gateOp rfl (by kernel_rfl) (fun K hK => ?_)
 refine step_appP _ (by kernel_rfl) (.tmp 7) (.tmp 9) 31 31 rfl base 30 i0 (.agg #[.int .i64 0, .int .i64 0, .int .i64 0, .int .i64 0]) 4 32 Tryz.underlying31 hi hz0 hz1 hz2 rfl _ _ _ (by simp [Act.eval]) (HO.out _ hG).1 _ _ _ (by simp [Act.eval]) HS.out (by simp only [maxLen]; omega) (fitsM (by omega) (by decide)) (HO.out _ hG).2 ?_
 intro v2 W7 o2 g2 p2
 obtain ⟨l2, rfl, d1, d2, d3, d4⟩ := HF.out _ _ _ hG o2 g2 p2
 have HX := hid d4
 clear d4 o2 g2 p2
 refine hK.out _ _ trivial (fun _ => ?_)
 clear hK K
 try simp only [Act.put, lqA, lqB, lqC, lqD, lqE, lqF]
 refine wpAnyH_take (i := 8) (v := ?_) rfl (by kernel_rfl) (by kernel_rfl) (by kernel_rfl) (fun _ _ _ h => h) (Or.inl ⟨by kernel_rfl, ?hy8⟩) (by assumption) ?_
 case hy8 => (intro wI hSw; (try dsimp only at hSw); go_simp; try with_reducible rfl)
 try simp only [Act.put, lqA, lqB, lqC, lqD, lqE, lqF]
 refine wpAnyH_take (i := 9) (v := ?_) rfl (by kernel_rfl) (by kernel_rfl) (by kernel_rfl) (fun _ _ _ h => h) (Or.inl ⟨by kernel_rfl, ?hy9⟩) (by assumption) ?_
 case hy9 => (intro wI hSw; (try dsimp only at hSw); go_simp; try with_reducible rfl)
 try simp only [Act.put, lqA, lqB, lqC, lqD, lqE, lqF]
 refine wpAnyH_ready (rs := [10]) (by kernel_rfl) (by simp) ?_
 refine AllReadyH.cons rfl (fun K hK => ?_) AllReadyH.nil
 go_simp
 refine hK.out _ _ trivial (fun _ => ?_)
 clear hK K
 try simp only [Act.put, lqA, lqB, lqC, lqD, lqE, lqF]
 refine wpAnyH_done (by kernel_rfl) ?_ _
 go_wp2_with fail
 go_end0
 exact ⟨rfl, HX.out⟩
theorem fdamage_any (hE : Fe w es) (h : Pf base w p m L) (id : Int) (hi : Bt id) (hn : ∀ e, gt L id = some e → e.s.pe.dm.n ≤ 1000000) (z0 z1 z2 z3 : Int) :
  Calls Tryz.prog 14 #[.pointer (some ⟨p, 0, none⟩), .int .i64 id, .agg #[.int .i64 z0, .int .i64 z1, .int .i64 z2, .int .i64 z3]] w fun e w' => e = .returned (erv es (hasE (pab L) id)) ∧ ∃ L', PfR base w p m L (upd (pab L) id (dmgS [z0, z1, z2, z3])) w' L' := by
 have hb := bel_new w (.cells #[.int .i64 z0, .int .i64 z1, .int .i64 z2, .int .i64 z3] 30)
 have HT := hid (fturn_any (hE.on hb) (h.on hb) id hi 60 #[.pointer (some ⟨w.heap.size, 0, none⟩)] (enters_of Tryz.func60 (by kernel_rfl) rfl) (fun w' => ∃ L', PfR base w p m L (upd (pab L) id (dmgS [z0, z1, z2, z3])) w' L')
  (fun hq q => ⟨L, (PfR.refl h (Below.on hb (below_drewN (Below.refl _ _) q))).as (by rw [upd, gt_pab, hq]; rfl)⟩)
  (fun e he q => fdmg1_any h he (Below.on hb (below_drewN (Below.refl _ _) q)) (hn e he) w.heap.size z0 z1 z2 z3 ((bk_new w _ _).on (below_drewN (Below.refl _ _) q))))
 clear hE h hb
 go_enter Tryz.func14, Tryz.ntmps14
 go_wp2_with fail
 refine HT.out.mono ?_
 rintro e w1 ⟨rfl, hx⟩
 have HX := hid hx
 clear hx
 go_wp2
 go_ret
 exact ⟨rfl, HX.out⟩
end
section
def slN : Value → Nat
 | .slice _ n _ => n
 | _ => 0
structure Dri (w : World) (k : Int) (l0 : List Int) (lv rv : Value) (wr : World) : Prop where
 ex : ∃ a n c l r, lv = .slice a n c ∧ Rz w a n c l ∧ OwZ w wr rv r ∧ r ++ dr k l = dr k l0 ∧ r.length + n ≤ l0.length
theorem odrop_any (a : Option Addr) (n c : Nat) (l : List Int) (k : Int) (w : World) (p : Addr) (hp : Pl w p) (h : Rz w a n c l) (hn : n ≤ 1000000) :
  Calls Tryz.prog 104 #[.slice a n c, .int .i64 k] w fun e w' => ∃ v, e = .returned v ∧ OwZ w w' v (dr k l) := by
 obtain ⟨i0, hi, hz0, hz1, hz2⟩ := infoZp
 obtain ⟨w1, hmk, ho1⟩ := make0Z w n (by omega)
 have hl0 := h.len
 have HP := hid hp
 have HI : Hid (Dri w k l (.slice a n c) (.slice (some ⟨w.heap.size, 0, none⟩) 0 n) w1) := ⟨a, n, c, l, [], rfl, h, ho1, rfl, by simp [hl0]⟩
 have hl1 : l.length ≤ 1000000 := by omega
 clear h hp ho1 hl0
 go_enter Tryz.func104, Tryz.ntmps104
 go_wp2
 go_loopw [0, 5] (fun lv rv wr => Dri w k l lv rv wr) (fun lv _ _ => slN lv)
 case atStart => exact HI.out
 case round =>
  obtain ⟨a, m, c, l', r, rfl, hr, ho, hd, hlen⟩ := hrel.ex
  have hm := hr.small
  have hle := hr.le
  have HL := hid hr.len
  have HR := hid hr
  have HO := hid ho
  have HD := hid hd
  have HB := hid ho.bel
  have hp2 := HP.out.on ho.bel
  have HF := hid (ofirst_any a m c l' k wr p hp2 (hr.on ho.bel))
  have HC : Hid (∀ q, (wr.drewN q).cell? ⟨4, 0, none⟩ = some (.iface 176 (.pointer (some p)))) := fun q => (hp2.drewN q).c
  obtain ⟨av, cv, rfl, -, -⟩ := ho.rd
  clear hrel hr ho hd hp2 HI hmk
  cases hx : zx k l' with
  | some i =>
   rw [fstV_some hx] at HF
   obtain ⟨x1, x2, x3, x4⟩ := zx_some hx
   have hi1 : i < m := by rw [← HL.out]; exact x1
   obtain ⟨b, off, z, rfl, -, -, -⟩ := HR.out.at_ hi1
   have HS : Hid (∀ q, Src Tryz.prog 1 40 (.slice (some ⟨b, off, none⟩) i c) i (ic (l'.take i)) (wr.drewN q)) := fun q => (((HR.out.on HB.out).drewN q).take i (by omega)).src Tryz.underlying40
   have HN : Hid (∀ q u v, u.ownsRow w.heap.size 3 1 v (r.length + i) (ic r ++ ic (l'.take i)) → (wr.drewN q).grownBy u (Value.slice av r.length cv).ownBlock → ∃ av2 cv2, v = .slice av2 (r.length + i) cv2 ∧ Hid (Dri w k l (.slice (some ⟨b, off + (i + 1), none⟩) (m - (i + 1)) (c - (i + 1))) (.slice av2 (r.length + i) cv2) u) ∧ Hid (c = i + 1 → Dri w k l (.slice (some ⟨b, off, none⟩) 0 0) (.slice av2 (r.length + i) cv2) u)) := fun q u v o2 g2 => by
    have hti : (l'.take i).length = i := by rw [List.length_take, HL.out]; omega
    have ho2 := (HO.out.on (below_drewN (Below.refl _ _) q)).grown hti o2 g2
    obtain ⟨av2, cv2, rfl, -, -⟩ := ho2.rd
    have hlen2 : (r ++ l'.take i).length = r.length + i := by rw [List.length_append, hti]
    rw [hlen2] at ho2 ⊢
    have e : (r ++ l'.take i) ++ dr k (l'.drop (i + 1)) = dr k l := by rw [← HD.out, x3, List.append_assoc]
    refine ⟨av2, cv2, rfl, ⟨_, _, _, l'.drop (i + 1), r ++ l'.take i, rfl, HR.out.drop (i + 1) (by omega), ho2, e, by rw [hlen2]; omega⟩, fun hc => ?_⟩
    have h1 : l'.drop (i + 1) = [] := List.drop_eq_nil_of_le (by rw [HL.out]; omega)
    rw [h1] at e
    exact ⟨_, _, _, [], r ++ l'.take i, rfl, Rz.zero _ _, ho2, e, by rw [hlen2]; omega⟩
   have e1 : (i : Int) + 1 ≤ 9223372036854775807 := by omega
   have hws := HB.out.size
   have HSI : Hid (r.length + i ≤ 1000000) := by rw [Hid]; omega
   have HOW : Hid (∀ q, (wr.drewN q).ownsRow w.heap.size 3 1 (.slice av r.length cv) r.length (ic r)) := fun q => ownsRow_below HO.out.own (below_drewN (Below.refl _ _) q)
   clear hx x1 x2 x3 x4 HR HO HD HB HP HL
   by_cases hck : c = i + 1
   ·subst hck
    go_wp2_with fail
    refine HF.out.mono ?_
    rintro e w2 ⟨rfl, q, rfl⟩
    have c0 := HC.out q
    go_wp2_with fail
    refine (isz_nil p _).mono ?_
    rintro e w3 ⟨rfl, rfl⟩
    go_wp2_with (at_builtin; refine wpList_append_own_src _ rfl (.tmp 23) (.tmp 26) 40 40 rfl w.heap.size 3 i0 (.int .i64 0) 1 8 Tryz.underlying40 hi hz0 hz1 hz2 rfl _ _ _ rfl (HOW.out q) _ _ _ rfl (HS.out q) (by simp only [maxLen]; have := HSI.out; omega) (fitsZ (by have := HSI.out; omega)) hws ?_; intro v3 w3 o3 g3; obtain ⟨av2, cv2, rfl, HY, HX⟩ := HN.out _ _ _ o3 g3; clear o3 g3)
    exact ⟨HX.out trivial, by simp only [slN]; omega⟩
   ·go_wp2_with fail
    refine HF.out.mono ?_
    rintro e w2 ⟨rfl, q, rfl⟩
    have c0 := HC.out q
    go_wp2_with fail
    refine (isz_nil p _).mono ?_
    rintro e w3 ⟨rfl, rfl⟩
    go_wp2_with (at_builtin; refine wpList_append_own_src _ rfl (.tmp 23) (.tmp 26) 40 40 rfl w.heap.size 3 i0 (.int .i64 0) 1 8 Tryz.underlying40 hi hz0 hz1 hz2 rfl _ _ _ rfl (HOW.out q) _ _ _ rfl (HS.out q) (by simp only [maxLen]; have := HSI.out; omega) (fitsZ (by have := HSI.out; omega)) hws ?_; intro v3 w3 o3 g3; obtain ⟨av2, cv2, rfl, HY, HX⟩ := HN.out _ _ _ o3 g3; clear o3 g3)
    exact ⟨HY.out, by simp only [slN]; omega⟩
  | none =>
   rw [fstV_none hx] at HF
   have hdr := dr_not (zx_none.1 hx)
   have HS : Hid (∀ q, Src Tryz.prog 1 40 (.slice a m c) m (ic l') (wr.drewN q)) := fun q => ((HR.out.on HB.out).drewN q).src Tryz.underlying40
   have hws := HB.out.size
   have HN : Hid (∀ q u v, u.ownsRow w.heap.size 3 1 v (r.length + m) (ic r ++ ic l') → (wr.drewN q).grownBy u (Value.slice av r.length cv).ownBlock → OwZ w u v (dr k l)) := fun q u v o2 g2 => by
    have ho2 := (HO.out.on (below_drewN (Below.refl _ _) q)).grown HL.out o2 g2
    rw [← HD.out, hdr]
    exact ho2
   have HOW : Hid (∀ q, (wr.drewN q).ownsRow w.heap.size 3 1 (.slice av r.length cv) r.length (ic r)) := fun q => ownsRow_below HO.out.own (below_drewN (Below.refl _ _) q)
   clear hx hdr HR HO HD HB HP HL
   go_wp2_with fail
   refine HF.out.mono ?_
   rintro e w2 ⟨rfl, q, rfl⟩
   have c0 := HC.out q
   go_wp2_with fail
   refine (is_same p _).mono ?_
   rintro e w3 ⟨rfl, rfl⟩
   go_wp2_with (at_builtin; refine wpList_append_own_src _ rfl (.tmp 20) (.tmp 21) 40 40 rfl w.heap.size 3 i0 (.int .i64 0) 1 8 Tryz.underlying40 hi hz0 hz1 hz2 rfl _ _ _ rfl (HOW.out q) _ _ _ rfl (HS.out q) (by simp only [maxLen]; omega) (fitsZ (by omega)) hws ?_; intro v3 w3 o3 g3; have HZ := hid (HN.out _ _ _ o3 g3); clear o3 g3)
   go_ret
   exact ⟨_, rfl, HZ.out⟩
end
end Go.Proofs.YtdgknofpkafppaaGreatDoor
