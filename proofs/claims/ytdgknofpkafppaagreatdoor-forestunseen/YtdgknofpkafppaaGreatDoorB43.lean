/- Lemmas that the proof leans on. -/
import Derived.Test.YtdgknofpkafppaaGreatDoorB42
namespace Go.Proofs.YtdgknofpkafppaaGreatDoor
open Go Go.RowKit
open List renaming getElem_toArray → lqA, getElem_cons_zero → lqB, getElem_cons_succ → lqC, setIfInBounds_toArray → lqD, set_cons_zero → lqE, set_cons_succ → lqF
set_option maxRecDepth 100000
set_option maxHeartbeats 4000000
section
variable {es : List Addr} {w0 w w' : World} {p q mm : Nat} {F : Fo}
theorem stp_inpa (h : B2q es w0 p q mm F w) (hm : mm ≤ 890) (o : Oq) (ok : o.Ok w) (hv : plc o.k 19 = 8) (hn : o.l.n ≤ 20) (hl0 : RdM 4 w0 o.l.a o.l.n o.l.c o.l.l) (_hlo : ∀ y, o.l.a = some y → 0 < o.l.n → y.block < w0.heap.size) (hz : bits .and .i64 o.a 1 = 0) :
  Calls Tryz.prog 7 #[.pointer (some ⟨p, 0, none⟩), .pointer (some ⟨q, 0, none⟩), .agg #[.int .i64 o.k, .int .i64 o.id, .int .i64 o.a, .int .i64 o.b, .int .i64 o.x, .int .i64 o.y, .int .i64 o.w, .int .i64 o.h, .slice o.l.a o.l.n o.l.c]] w (StR es w0 p q mm) := by
 have hm1 : mm ≤ 900 := by omega
 have hm2 : mm + 1 ≤ 900 := by omega
 have hO := h.bo #[.int .i64 o.k, .int .i64 o.id, .int .i64 o.a, .int .i64 o.b, .int .i64 o.x, .int .i64 o.y, .int .i64 o.w, .int .i64 o.h, .slice o.l.a o.l.n o.l.c]
 have okl := ok.l.on (bel_new w (.cells #[.int .i64 o.k, .int .i64 o.id, .int .i64 o.a, .int .i64 o.b, .int .i64 o.x, .int .i64 o.y, .int .i64 o.w, .int .i64 o.h, .slice o.l.a o.l.n o.l.c] 33))
 have HP := hid (place_any o.k 19 ok.k (by omega) (by omega))
 rw [hv] at HP
 obtain ⟨Y, hY, hYg, hW⟩ := hO.dat
 obtain ⟨r, hc, hr⟩ := hY.s o.id
 have HC := hid hc
 have HW := hid hW
 have HOKL := hid okl
 clear h hc hv hW okl
 go_enter Tryz.func7, Tryz.ntmps7
 go_wp2_with fail
 refine HC.out.mono ?_
 rintro e W ⟨rfl, hW1⟩
 obtain rfl : W = _ := hW1
 clear HC
 generalize w.alloc (.cells #[.int .i64 o.k, .int .i64 o.id, .int .i64 o.a, .int .i64 o.b, .int .i64 o.x, .int .i64 o.y, .int .i64 o.w, .int .i64 o.h, .slice o.l.a o.l.n o.l.c] 33) = W at *
 generalize w.heap.size = g at *
 have HL0 := hid hl0
 clear hl0 HOKL
 rcases hr with ⟨rfl, hno⟩ | ⟨gd, P, s, rfl, hys, hD⟩
 ·have hno' := hasE_no hno
  have hup : upd F o.id (inpS true o.l.l) = F := upd_no hno
  have oc := hO.oc
  have c0 := oc.c0
  have l0 := oc.lt
  go_wp2_with fail
  refine (HP.out _).mono ?_
  rintro e W1 ⟨rfl, hW2⟩
  obtain rfl : W1 = W := hW2
  clear HP c0 l0 oc
  clear HW hY hYg
  go_upto_region 32 with fail
  have hO5 := hO.drew
  have hoc5 := hO5.oc
  clear hO
  refine wp_region_held_drew (S := fun x => Oc17 x g o) (by kernel_rfl) ?hh (fun hHeld => ?_)
  case hh => exact (hoc5)
  generalize W1.drew = U0 at hHeld hO5 ⊢
  try dsimp only at hHeld
  refine wpAnyH_take (i := 0) (v := ?_) rfl (by kernel_rfl) (by kernel_rfl) (by kernel_rfl) (fun _ _ _ h => h) (Or.inl ⟨by kernel_rfl, ?hy0⟩) (by assumption) ?_
  case hy0 => (intro wI hSw; (try dsimp only at hSw); obtain ⟨t0, t1, t2, t3, t4, t5, t6, t7, t8, t9⟩ := hSw; go_simp; try with_reducible rfl)
  try simp only [Act.put, lqA, lqB, lqD, lqE, lqF]
  refine wpAnyH_take (i := 1) (v := ?_) rfl (by kernel_rfl) (by kernel_rfl) (by kernel_rfl) (fun _ _ _ h => h) (Or.inl ⟨by kernel_rfl, ?hy1⟩) (by assumption) ?_
  case hy1 => (intro wI hSw; (try dsimp only at hSw); obtain ⟨t0, t1, t2, t3, t4, t5, t6, t7, t8, t9⟩ := hSw; go_simp; try with_reducible rfl)
  try simp only [Act.put, lqA, lqB, lqC, lqD, lqE, lqF]
  refine wpAnyH_take (i := 2) (v := ?_) rfl (by kernel_rfl) (by kernel_rfl) (by kernel_rfl) (fun _ _ _ h => h) (Or.inl ⟨by kernel_rfl, ?hy2⟩) (by assumption) ?_
  case hy2 => (intro wI hSw; (try dsimp only at hSw); obtain ⟨t0, t1, t2, t3, t4, t5, t6, t7, t8, t9⟩ := hSw; go_simp; try with_reducible rfl)
  try simp only [Act.put, lqA, lqB, lqC, lqD, lqE, lqF]
  refine wpAnyH_take (i := 3) (v := ?_) rfl (by kernel_rfl) (by kernel_rfl) (by kernel_rfl) (fun _ _ _ h => h) (Or.inl ⟨by kernel_rfl, ?hy3⟩) (by assumption) ?_
  case hy3 => (intro wI hSw; (try dsimp only at hSw); obtain ⟨t0, t1, t2, t3, t4, t5, t6, t7, t8, t9⟩ := hSw; go_simp; try with_reducible rfl)
  try simp only [Act.put, lqA, lqB, lqC, lqD, lqE, lqF]
  refine wpAnyH_take (i := 4) (v := ?_) rfl (by kernel_rfl) (by kernel_rfl) (by kernel_rfl) (fun _ _ _ h => h) (Or.inl ⟨by kernel_rfl, ?hy4⟩) (by assumption) ?_
  case hy4 => (intro wI hSw; (try dsimp only at hSw); obtain ⟨t0, t1, t2, t3, t4, t5, t6, t7, t8, t9⟩ := hSw; go_simp; try with_reducible rfl)
  try simp only [Act.put, lqA, lqB, lqC, lqD, lqE, lqF]
  refine wpAnyH_take (i := 5) (v := ?_) rfl (by kernel_rfl) (by kernel_rfl) (by kernel_rfl) (fun _ _ _ h => h) (Or.inl ⟨by kernel_rfl, ?hy5⟩) (by assumption) ?_
  case hy5 => (intro wI hSw; (try dsimp only at hSw); obtain ⟨t0, t1, t2, t3, t4, t5, t6, t7, t8, t9⟩ := hSw; go_simp; try with_reducible rfl)
  try simp only [Act.put, lqA, lqB, lqC, lqD, lqE, lqF]
  refine wpAnyH_take (i := 6) (v := ?_) rfl (by kernel_rfl) (by kernel_rfl) (by kernel_rfl) (fun _ _ _ h => h) (Or.inl ⟨by kernel_rfl, ?hy6⟩) (by assumption) ?_
  case hy6 => (intro wI hSw; (try dsimp only at hSw); obtain ⟨t0, t1, t2, t3, t4, t5, t6, t7, t8, t9⟩ := hSw; go_simp; try with_reducible rfl)
  try simp only [Act.put, lqA, lqB, lqC, lqD, lqE, lqF]
  refine wpAnyH_take (i := 7) (v := ?_) rfl (by kernel_rfl) (by kernel_rfl) (by kernel_rfl) (fun _ _ _ h => h) (Or.inl ⟨by kernel_rfl, ?hy7⟩) (by assumption) ?_
  case hy7 => (intro wI hSw; (try dsimp only at hSw); obtain ⟨t0, t1, t2, t3, t4, t5, t6, t7, t8, t9⟩ := hSw; go_simp; try with_reducible rfl)
  try simp only [Act.put, lqA, lqB, lqC, lqD, lqE, lqF]
  refine wpAnyH_take (i := 8) (v := ?_) rfl (by kernel_rfl) (by kernel_rfl) (by kernel_rfl) (fun _ _ _ h => h) (Or.inl ⟨by kernel_rfl, ?hy8⟩) (by assumption) ?_
  case hy8 => (intro wI hSw; (try dsimp only at hSw); obtain ⟨t0, t1, t2, t3, t4, t5, t6, t7, t8, t9⟩ := hSw; go_simp; try with_reducible rfl)
  try simp only [Act.put, lqA, lqB, lqC, lqD, lqE, lqF]
  refine wpAnyH_take (i := 12) (v := ?_) rfl (by kernel_rfl) (by kernel_rfl) (by kernel_rfl) (fun _ _ _ h => h) (Or.inl ⟨by kernel_rfl, ?hy12⟩) (by assumption) ?_
  case hy12 => (intro wI hSw; (try dsimp only at hSw); obtain ⟨t0, t1, t2, t3, t4, t5, t6, t7, t8, t9⟩ := hSw; go_simp; try with_reducible rfl)
  try simp only [Act.put, lqA, lqB, lqC, lqD, lqE, lqF]
  refine wpAnyH_ready (rs := [9]) (by kernel_rfl) (by simp) ?_
  refine AllReadyH.cons rfl (fun K hK => ?_) AllReadyH.nil
  go_simp
  go_wp2_with fail
  refine (lrects_any o.l.a o.l.n o.l.c o.l.l U0 (HL0.out.on hO5.bel) (by omega)).mono ?_
  rintro e W9 ⟨v1, rfl, hv1⟩
  have hb1 := hv1.bel
  have hH2 := hHeld.on hb1
  obtain ⟨s2, rfl, hsn, hsl, hsr, hso⟩ := own_sl hv1.own rfl hv1.size
  have CI := hid (hO5.inp o.id ok.id true s2 hb1 hsr (by rw [hsn]; have := HL0.out.len; omega) (fun y hy _ => own_fy hso y hy))
  rw [hsl, hno', hup] at CI
  rw [Sl.v]
  refine hK.out _ _ hH2 (fun _ => ?_)
  clear hK K hHeld hb1 hv1 hsn hsl hsr hso hO5
  have hHeld := hH2
  clear hH2
  try simp only [Act.put, lqA, lqB, lqC, lqD, lqE, lqF]
  refine wpAnyH_ready (rs := [10]) (by kernel_rfl) (by simp) ?_
  refine AllReadyH.cons rfl (fun K hK => ?_) AllReadyH.nil
  go_simp
  go_wp2_with fail
  refine CI.out.mono ?_
  rintro e W10 ⟨rfl, hO6⟩
  have hH2 := hO6.oc
  have CK := hid (hO6.kind 5 (by decide))
  try rw [show erv es 0 = .nilIface from rfl] at CK
  try rw [show erv es 0 = .nilIface from rfl]
  refine hK.out _ _ hH2 (fun _ => ?_)
  clear hK K hHeld CI hO6
  have hHeld := hH2
  clear hH2
  try simp only [Act.put, lqA, lqB, lqC, lqD, lqE, lqF]
  refine wpAnyH_ready (rs := [11]) (by kernel_rfl) (by simp) ?_
  refine AllReadyH.cons rfl (fun K hK => ?_) AllReadyH.nil
  go_simp
  go_wp2_with fail
  refine CK.out.mono ?_
  rintro e W11 ⟨rfl, hO7⟩
  have hH2 := hO7.oc
  have HF := hid hO7
  refine hK.out _ _ hH2 (fun _ => ?_)
  clear hK K hHeld CK hO7
  have hHeld := hH2
  clear hH2
  try simp only [Act.put, lqA, lqB, lqC, lqD, lqE, lqF]
  refine wpAnyH_take (i := 13) (v := ?_) rfl (by kernel_rfl) (by kernel_rfl) (by kernel_rfl) (fun _ _ _ h => h) (Or.inl ⟨by kernel_rfl, ?hy13⟩) (by assumption) ?_
  case hy13 => (intro wI hSw; (try dsimp only at hSw); obtain ⟨t0, t1, t2, t3, t4, t5, t6, t7, t8, t9⟩ := hSw; go_simp; try with_reducible rfl)
  try simp only [Act.put, lqA, lqB, lqC, lqD, lqE, lqF]
  refine wpAnyH_take (i := 14) (v := ?_) rfl (by kernel_rfl) (by kernel_rfl) (by kernel_rfl) (fun _ _ _ h => h) (Or.inl ⟨by kernel_rfl, ?hy14⟩) (by assumption) ?_
  case hy14 => (intro wI hSw; (try dsimp only at hSw); obtain ⟨t0, t1, t2, t3, t4, t5, t6, t7, t8, t9⟩ := hSw; go_simp; try with_reducible rfl)
  try simp only [Act.put, lqA, lqB, lqC, lqD, lqE, lqF]
  refine wpAnyH_done (by kernel_rfl) ?_ _
  go_wp2
  go_ret
  exact ⟨rfl, _, HF.out.two (by omega)⟩
 ·have hgg : gd ≠ g := hYg gd hD.mem
  have hys' := hasE_yes hys
  have oc := hO.oc
  have c0 := oc.c0
  have l0 := oc.lt
  go_wp2_with fail
  refine (HP.out _).mono ?_
  rintro e W1 ⟨rfl, hW2⟩
  obtain rfl : W1 = W := hW2
  clear HP c0 l0 oc
  go_upto_region 29 with fail
  obtain ⟨b1, d1⟩ := hD.inp
  obtain ⟨b2, d2⟩ := hD.all
  obtain ⟨l3, d3⟩ := hD.rg
  replace d1 : W1.drew.cell? ⟨gd, P + 3 + 4, none⟩ = some (.bool b1) := d1
  replace d2 : W1.drew.cell? ⟨gd, P + 3 + 5, none⟩ = some (.bool b2) := d2
  replace d3 : W1.drew.cell? ⟨gd, P + 3 + 6, none⟩ = some (.slice l3.a l3.n l3.c) := d3
  have hfz : ∀ j, W1.drew.frozen? ⟨gd, j, none⟩ = false := hD.fz
  have hlt : gd < W1.drew.heap.size := hD.lt
  have HN := hid (HW.out _ _ (hD.wall W1.drew o.l.l (Below.refl _ _).drew (by rw [HL0.out.len]; exact hn)))
  have hoc := hO.oc
  clear hO hY hD hYg HW
  refine wp_region_held_drew (S := fun x => Oc17 x g o) (by kernel_rfl) ?hh (fun hHeld => ?_)
  case hh => exact (hoc.on (Below.refl _ _).drew)
  generalize W1.drew = V0 at hHeld HN d1 d2 d3 hfz hlt ⊢
  try dsimp only at hHeld
  refine wpAnyH_take (i := 0) (v := ?_) rfl (by kernel_rfl) (by kernel_rfl) (by kernel_rfl) (fun _ _ _ h => h) (Or.inl ⟨by kernel_rfl, ?hy0⟩) (by assumption) ?_
  case hy0 => (intro wI hSw; (try dsimp only at hSw); obtain ⟨t0, t1, t2, t3, t4, t5, t6, t7, t8, t9⟩ := hSw; go_simp; try with_reducible rfl)
  try simp only [Act.put, lqA, lqB, lqD, lqE, lqF]
  refine wpAnyH_take (i := 1) (v := ?_) rfl (by kernel_rfl) (by kernel_rfl) (by kernel_rfl) (fun _ _ _ h => h) (Or.inl ⟨by kernel_rfl, ?hy1⟩) (by assumption) ?_
  case hy1 => (intro wI hSw; (try dsimp only at hSw); obtain ⟨t0, t1, t2, t3, t4, t5, t6, t7, t8, t9⟩ := hSw; go_simp; try with_reducible rfl)
  try simp only [Act.put, lqA, lqB, lqC, lqD, lqE, lqF]
  refine wpAnyH_take (i := 2) (v := ?_) rfl (by kernel_rfl) (by kernel_rfl) (by kernel_rfl) (fun _ _ _ h => h) (Or.inl ⟨by kernel_rfl, ?hy2⟩) (by assumption) ?_
  case hy2 => (intro wI hSw; (try dsimp only at hSw); obtain ⟨t0, t1, t2, t3, t4, t5, t6, t7, t8, t9⟩ := hSw; go_simp; try with_reducible rfl)
  try simp only [Act.put, lqA, lqB, lqC, lqD, lqE, lqF]
  refine wpAnyH_take (i := 3) (v := ?_) rfl (by kernel_rfl) (by kernel_rfl) (by kernel_rfl) (fun _ _ _ h => h) (Or.inl ⟨by kernel_rfl, ?hy3⟩) (by assumption) ?_
  case hy3 => (intro wI hSw; (try dsimp only at hSw); obtain ⟨t0, t1, t2, t3, t4, t5, t6, t7, t8, t9⟩ := hSw; go_simp; try with_reducible rfl)
  try simp only [Act.put, lqA, lqB, lqC, lqD, lqE, lqF]
  refine wpAnyH_take (i := 4) (v := ?_) rfl (by kernel_rfl) (by kernel_rfl) (by kernel_rfl) (fun _ _ _ h => h) (Or.inl ⟨by kernel_rfl, ?hy4⟩) (by assumption) ?_
  case hy4 => (intro wI hSw; (try dsimp only at hSw); obtain ⟨t0, t1, t2, t3, t4, t5, t6, t7, t8, t9⟩ := hSw; go_simp; try with_reducible rfl)
  try simp only [Act.put, lqA, lqB, lqC, lqD, lqE, lqF]
  refine wpAnyH_take (i := 5) (v := ?_) rfl (by kernel_rfl) (by kernel_rfl) (by kernel_rfl) (fun _ _ _ h => h) (Or.inl ⟨by kernel_rfl, ?hy5⟩) (by assumption) ?_
  case hy5 => (intro wI hSw; (try dsimp only at hSw); obtain ⟨t0, t1, t2, t3, t4, t5, t6, t7, t8, t9⟩ := hSw; go_simp; try with_reducible rfl)
  try simp only [Act.put, lqA, lqB, lqC, lqD, lqE, lqF]
  refine wpAnyH_take (i := 6) (v := ?_) rfl (by kernel_rfl) (by kernel_rfl) (by kernel_rfl) (fun _ _ _ h => h) (Or.inl ⟨by kernel_rfl, ?hy6⟩) (by assumption) ?_
  case hy6 => (intro wI hSw; (try dsimp only at hSw); obtain ⟨t0, t1, t2, t3, t4, t5, t6, t7, t8, t9⟩ := hSw; go_simp; try with_reducible rfl)
  try simp only [Act.put, lqA, lqB, lqC, lqD, lqE, lqF]
  refine wpAnyH_take (i := 7) (v := ?_) rfl (by kernel_rfl) (by kernel_rfl) (by kernel_rfl) (fun _ _ _ h => h) (Or.inl ⟨by kernel_rfl, ?hy7⟩) (by assumption) ?_
  case hy7 => (intro wI hSw; (try dsimp only at hSw); obtain ⟨t0, t1, t2, t3, t4, t5, t6, t7, t8, t9⟩ := hSw; go_simp; try with_reducible rfl)
  try simp only [Act.put, lqA, lqB, lqC, lqD, lqE, lqF]
  refine wpAnyH_take (i := 8) (v := ?_) rfl (by kernel_rfl) (by kernel_rfl) (by kernel_rfl) (fun _ _ _ h => h) (Or.inl ⟨by kernel_rfl, ?hy8⟩) (by assumption) ?_
  case hy8 => (intro wI hSw; (try dsimp only at hSw); obtain ⟨t0, t1, t2, t3, t4, t5, t6, t7, t8, t9⟩ := hSw; go_simp; try with_reducible rfl)
  try simp only [Act.put, lqA, lqB, lqC, lqD, lqE, lqF]
  refine wpAnyH_take (i := 9) (v := ?_) rfl (by kernel_rfl) (by kernel_rfl) (by kernel_rfl) (fun _ _ _ h => h) (Or.inl ⟨by kernel_rfl, ?hy9⟩) (by assumption) ?_
  case hy9 => (intro wI hSw; (try dsimp only at hSw); obtain ⟨t0, t1, t2, t3, t4, t5, t6, t7, t8, t9⟩ := hSw; go_simp; try with_reducible rfl)
  try simp only [Act.put, lqA, lqB, lqC, lqD, lqE, lqF]
  refine wpAnyH_ready (rs := [10]) (by kernel_rfl) (by simp) ?_
  refine AllReadyH.cons rfl (fun K hK => ?_) AllReadyH.nil
  go_simp
  refine hK.out _ _ (hHeld.put hgg _ _) (fun _ => ?_)
  clear hK K
  try simp only [Act.put, lqA, lqB, lqC, lqD, lqE, lqF]
  refine wpAnyH_take (i := 11) (v := ?_) rfl (by kernel_rfl) (by kernel_rfl) (by kernel_rfl) (fun _ _ _ h => h) (Or.inl ⟨by kernel_rfl, ?hy11⟩) (by assumption) ?_
  case hy11 => (intro wI hSw; (try dsimp only at hSw); obtain ⟨t0, t1, t2, t3, t4, t5, t6, t7, t8, t9⟩ := hSw; go_simp; try with_reducible rfl)
  try simp only [Act.put, lqA, lqB, lqC, lqD, lqE, lqF]
  refine wpAnyH_take (i := 12) (v := ?_) rfl (by kernel_rfl) (by kernel_rfl) (by kernel_rfl) (fun _ _ _ h => h) (Or.inl ⟨by kernel_rfl, ?hy12⟩) (by assumption) ?_
  case hy12 => (intro wI hSw; (try dsimp only at hSw); obtain ⟨t0, t1, t2, t3, t4, t5, t6, t7, t8, t9⟩ := hSw; go_simp; try with_reducible rfl)
  try simp only [Act.put, lqA, lqB, lqC, lqD, lqE, lqF]
  refine wpAnyH_take (i := 13) (v := ?_) rfl (by kernel_rfl) (by kernel_rfl) (by kernel_rfl) (fun _ _ _ h => h) (Or.inl ⟨by kernel_rfl, ?hy13⟩) (by assumption) ?_
  case hy13 => (intro wI hSw; (try dsimp only at hSw); obtain ⟨t0, t1, t2, t3, t4, t5, t6, t7, t8, t9⟩ := hSw; go_simp; try with_reducible rfl)
  try simp only [Act.put, lqA, lqB, lqC, lqD, lqE, lqF]
  refine wpAnyH_ready (rs := [14]) (by kernel_rfl) (by simp) ?_
  refine AllReadyH.cons rfl (fun K hK => ?_) AllReadyH.nil
  go_simp
  refine hK.out _ _ ((hHeld.put hgg _ _).put hgg _ _) (fun _ => ?_)
  clear hK K
  try simp only [Act.put, lqA, lqB, lqC, lqD, lqE, lqF]
  refine wpAnyH_take (i := 15) (v := ?_) rfl (by kernel_rfl) (by kernel_rfl) (by kernel_rfl) (fun _ _ _ h => h) (Or.inl ⟨by kernel_rfl, ?hy15⟩) (by assumption) ?_
  case hy15 => (intro wI hSw; (try dsimp only at hSw); obtain ⟨t0, t1, t2, t3, t4, t5, t6, t7, t8, t9⟩ := hSw; go_simp; try with_reducible rfl)
  try simp only [Act.put, lqA, lqB, lqC, lqD, lqE, lqF]
  refine wpAnyH_take (i := 16) (v := ?_) rfl (by kernel_rfl) (by kernel_rfl) (by kernel_rfl) (fun _ _ _ h => h) (Or.inl ⟨by kernel_rfl, ?hy16⟩) (by assumption) ?_
  case hy16 => (intro wI hSw; (try dsimp only at hSw); obtain ⟨t0, t1, t2, t3, t4, t5, t6, t7, t8, t9⟩ := hSw; go_simp; try with_reducible rfl)
  try simp only [Act.put, lqA, lqB, lqC, lqD, lqE, lqF]
  refine wpAnyH_take (i := 17) (v := ?_) rfl (by kernel_rfl) (by kernel_rfl) (by kernel_rfl) (fun _ _ _ h => h) (Or.inl ⟨by kernel_rfl, ?hy17⟩) (by assumption) ?_
  case hy17 => (intro wI hSw; (try dsimp only at hSw); obtain ⟨t0, t1, t2, t3, t4, t5, t6, t7, t8, t9⟩ := hSw; go_simp; try with_reducible rfl)
  try simp only [Act.put, lqA, lqB, lqC, lqD, lqE, lqF]
  refine wpAnyH_ready (rs := [18]) (by kernel_rfl) (by simp) ?_
  refine AllReadyH.cons rfl (fun K hK => ?_) AllReadyH.nil
  go_simp
  refine hK.out _ _ (((hHeld.put hgg _ _).put hgg _ _).put hgg _ _) (fun _ => ?_)
  clear hK K
  try simp only [Act.put, lqA, lqB, lqC, lqD, lqE, lqF]
  refine wpAnyH_done (by kernel_rfl) ?_ _
  have hO2 := HN.out
  generalize ((V0.setCell ⟨gd, P + 3 + 4, none⟩ (.bool true)).setCell ⟨gd, P + 3 + 5, none⟩ (.bool true)).setCell ⟨gd, P + 3 + 6, none⟩ (.slice none 0 0) = V9 at *
  clear hHeld HN d1 d2 d3 hfz hlt
  have oc := hO2.oc
  have c2 := oc.c2
  have l0 := oc.lt
  go_upto_region 32 with fail
  clear oc c2 l0
  have hO5 := hO2.drew
  have hoc5 := hO5.oc
  clear hO2
  refine wp_region_held_drew (S := fun x => Oc17 x g o) (by kernel_rfl) ?hh (fun hHeld => ?_)
  case hh => exact (hoc5)
  generalize V9.drew = U0 at hHeld hO5 ⊢
  try dsimp only at hHeld
  refine wpAnyH_take (i := 0) (v := ?_) rfl (by kernel_rfl) (by kernel_rfl) (by kernel_rfl) (fun _ _ _ h => h) (Or.inl ⟨by kernel_rfl, ?hy0⟩) (by assumption) ?_
  case hy0 => (intro wI hSw; (try dsimp only at hSw); obtain ⟨t0, t1, t2, t3, t4, t5, t6, t7, t8, t9⟩ := hSw; go_simp; try with_reducible rfl)
  try simp only [Act.put, lqA, lqB, lqD, lqE, lqF]
  refine wpAnyH_take (i := 1) (v := ?_) rfl (by kernel_rfl) (by kernel_rfl) (by kernel_rfl) (fun _ _ _ h => h) (Or.inl ⟨by kernel_rfl, ?hy1⟩) (by assumption) ?_
  case hy1 => (intro wI hSw; (try dsimp only at hSw); obtain ⟨t0, t1, t2, t3, t4, t5, t6, t7, t8, t9⟩ := hSw; go_simp; try with_reducible rfl)
  try simp only [Act.put, lqA, lqB, lqC, lqD, lqE, lqF]
  refine wpAnyH_take (i := 2) (v := ?_) rfl (by kernel_rfl) (by kernel_rfl) (by kernel_rfl) (fun _ _ _ h => h) (Or.inl ⟨by kernel_rfl, ?hy2⟩) (by assumption) ?_
  case hy2 => (intro wI hSw; (try dsimp only at hSw); obtain ⟨t0, t1, t2, t3, t4, t5, t6, t7, t8, t9⟩ := hSw; go_simp; try with_reducible rfl)
  try simp only [Act.put, lqA, lqB, lqC, lqD, lqE, lqF]
  refine wpAnyH_take (i := 3) (v := ?_) rfl (by kernel_rfl) (by kernel_rfl) (by kernel_rfl) (fun _ _ _ h => h) (Or.inl ⟨by kernel_rfl, ?hy3⟩) (by assumption) ?_
  case hy3 => (intro wI hSw; (try dsimp only at hSw); obtain ⟨t0, t1, t2, t3, t4, t5, t6, t7, t8, t9⟩ := hSw; go_simp; try with_reducible rfl)
  try simp only [Act.put, lqA, lqB, lqC, lqD, lqE, lqF]
  refine wpAnyH_take (i := 4) (v := ?_) rfl (by kernel_rfl) (by kernel_rfl) (by kernel_rfl) (fun _ _ _ h => h) (Or.inl ⟨by kernel_rfl, ?hy4⟩) (by assumption) ?_
  case hy4 => (intro wI hSw; (try dsimp only at hSw); obtain ⟨t0, t1, t2, t3, t4, t5, t6, t7, t8, t9⟩ := hSw; go_simp; try with_reducible rfl)
  try simp only [Act.put, lqA, lqB, lqC, lqD, lqE, lqF]
  refine wpAnyH_take (i := 5) (v := ?_) rfl (by kernel_rfl) (by kernel_rfl) (by kernel_rfl) (fun _ _ _ h => h) (Or.inl ⟨by kernel_rfl, ?hy5⟩) (by assumption) ?_
  case hy5 => (intro wI hSw; (try dsimp only at hSw); obtain ⟨t0, t1, t2, t3, t4, t5, t6, t7, t8, t9⟩ := hSw; go_simp; try with_reducible rfl)
  try simp only [Act.put, lqA, lqB, lqC, lqD, lqE, lqF]
  refine wpAnyH_take (i := 6) (v := ?_) rfl (by kernel_rfl) (by kernel_rfl) (by kernel_rfl) (fun _ _ _ h => h) (Or.inl ⟨by kernel_rfl, ?hy6⟩) (by assumption) ?_
  case hy6 => (intro wI hSw; (try dsimp only at hSw); obtain ⟨t0, t1, t2, t3, t4, t5, t6, t7, t8, t9⟩ := hSw; go_simp; try with_reducible rfl)
  try simp only [Act.put, lqA, lqB, lqC, lqD, lqE, lqF]
  refine wpAnyH_take (i := 7) (v := ?_) rfl (by kernel_rfl) (by kernel_rfl) (by kernel_rfl) (fun _ _ _ h => h) (Or.inl ⟨by kernel_rfl, ?hy7⟩) (by assumption) ?_
  case hy7 => (intro wI hSw; (try dsimp only at hSw); obtain ⟨t0, t1, t2, t3, t4, t5, t6, t7, t8, t9⟩ := hSw; go_simp; try with_reducible rfl)
  try simp only [Act.put, lqA, lqB, lqC, lqD, lqE, lqF]
  refine wpAnyH_take (i := 8) (v := ?_) rfl (by kernel_rfl) (by kernel_rfl) (by kernel_rfl) (fun _ _ _ h => h) (Or.inl ⟨by kernel_rfl, ?hy8⟩) (by assumption) ?_
  case hy8 => (intro wI hSw; (try dsimp only at hSw); obtain ⟨t0, t1, t2, t3, t4, t5, t6, t7, t8, t9⟩ := hSw; go_simp; try with_reducible rfl)
  try simp only [Act.put, lqA, lqB, lqC, lqD, lqE, lqF]
  refine wpAnyH_take (i := 12) (v := ?_) rfl (by kernel_rfl) (by kernel_rfl) (by kernel_rfl) (fun _ _ _ h => h) (Or.inl ⟨by kernel_rfl, ?hy12⟩) (by assumption) ?_
  case hy12 => (intro wI hSw; (try dsimp only at hSw); obtain ⟨t0, t1, t2, t3, t4, t5, t6, t7, t8, t9⟩ := hSw; go_simp; try with_reducible rfl)
  try simp only [Act.put, lqA, lqB, lqC, lqD, lqE, lqF]
  refine wpAnyH_ready (rs := [9]) (by kernel_rfl) (by simp) ?_
  refine AllReadyH.cons rfl (fun K hK => ?_) AllReadyH.nil
  go_simp
  go_wp2_with fail
  refine (lrects_any o.l.a o.l.n o.l.c o.l.l U0 (HL0.out.on hO5.bel) (by omega)).mono ?_
  rintro e W9 ⟨v1, rfl, hv1⟩
  have hb1 := hv1.bel
  have hH2 := hHeld.on hb1
  obtain ⟨s2, rfl, hsn, hsl, hsr, hso⟩ := own_sl hv1.own rfl hv1.size
  have CI := hid (hO5.inp o.id ok.id true s2 hb1 hsr (by rw [hsn]; have := HL0.out.len; omega) (fun y hy _ => own_fy hso y hy))
  rw [hsl, hys'] at CI
  rw [Sl.v]
  refine hK.out _ _ hH2 (fun _ => ?_)
  clear hK K hHeld hb1 hv1 hsn hsl hsr hso hO5
  have hHeld := hH2
  clear hH2
  try simp only [Act.put, lqA, lqB, lqC, lqD, lqE, lqF]
  refine wpAnyH_ready (rs := [10]) (by kernel_rfl) (by simp) ?_
  refine AllReadyH.cons rfl (fun K hK => ?_) AllReadyH.nil
  go_simp
  go_wp2_with fail
  refine CI.out.mono ?_
  rintro e W10 ⟨rfl, hO6⟩
  have hH2 := hO6.oc
  have CK := hid (hO6.kind 0 (by decide))
  try rw [show erv es 0 = .nilIface from rfl] at CK
  try rw [show erv es 0 = .nilIface from rfl]
  refine hK.out _ _ hH2 (fun _ => ?_)
  clear hK K hHeld CI hO6
  have hHeld := hH2
  clear hH2
  try simp only [Act.put, lqA, lqB, lqC, lqD, lqE, lqF]
  refine wpAnyH_ready (rs := [11]) (by kernel_rfl) (by simp) ?_
  refine AllReadyH.cons rfl (fun K hK => ?_) AllReadyH.nil
  go_simp
  go_wp2_with fail
  refine CK.out.mono ?_
  rintro e W11 ⟨rfl, hO7⟩
  have hH2 := hO7.oc
  have HF := hid hO7
  refine hK.out _ _ hH2 (fun _ => ?_)
  clear hK K hHeld CK hO7
  have hHeld := hH2
  clear hH2
  try simp only [Act.put, lqA, lqB, lqC, lqD, lqE, lqF]
  refine wpAnyH_take (i := 13) (v := ?_) rfl (by kernel_rfl) (by kernel_rfl) (by kernel_rfl) (fun _ _ _ h => h) (Or.inl ⟨by kernel_rfl, ?hy13⟩) (by assumption) ?_
  case hy13 => (intro wI hSw; (try dsimp only at hSw); obtain ⟨t0, t1, t2, t3, t4, t5, t6, t7, t8, t9⟩ := hSw; go_simp; try with_reducible rfl)
  try simp only [Act.put, lqA, lqB, lqC, lqD, lqE, lqF]
  refine wpAnyH_take (i := 14) (v := ?_) rfl (by kernel_rfl) (by kernel_rfl) (by kernel_rfl) (fun _ _ _ h => h) (Or.inl ⟨by kernel_rfl, ?hy14⟩) (by assumption) ?_
  case hy14 => (intro wI hSw; (try dsimp only at hSw); obtain ⟨t0, t1, t2, t3, t4, t5, t6, t7, t8, t9⟩ := hSw; go_simp; try with_reducible rfl)
  try simp only [Act.put, lqA, lqB, lqC, lqD, lqE, lqF]
  refine wpAnyH_done (by kernel_rfl) ?_ _
  go_wp2
  go_ret
  exact ⟨rfl, _, HF.out.two (by omega)⟩
end
section
structure Bz (es : List Addr) (w0 : World) (p q mm : Nat) (F G : Fo) (g : Nat) (cs : Array Value) (X Y : List Nat) (w : World) : Prop where
 p : Pq es w0 p mm F w X
 d : Dq w0 q mm G w Y
 xy : ∀ b ∈ X, b ∉ Y
 gx : g ∉ X
 gy : g ∉ Y
 hg : w.heap[g]? = some (.cells cs 33 (0, 0))
 lo : w0.heap.size ≤ g
 er : Errs w0 gerrs es
variable {es : List Addr} {w0 w w' : World} {p q mm : Nat} {F G F' G' : Fo} {g : Nat} {cs : Array Value} {X Y : List Nat}
theorem Bq.bz (h : Bq es w0 p q mm F G g cs w) : ∃ X Y, Bz es w0 p q mm F G g cs X Y w := by
 obtain ⟨_, _, V, ⟨X, Y, h1, h2, h3, rfl⟩, ⟨h4, rfl⟩, h5, rfl⟩ := h.ex
 exact ⟨X, Y, h1, h2, h3, fun hm => h5 g (List.mem_append_left _ hm) (by simp), fun hm => h5 g (List.mem_append_right _ hm) (by simp), h4, h.lo, h.er⟩
theorem Bz.bq (h : Bz es w0 p q mm F G g cs X Y w) : Bq es w0 p q mm F G g cs w :=
 ⟨⟨_, X ++ Y, [g], ⟨X, Y, h.p, h.d, h.xy, rfl⟩, ⟨h.hg, rfl⟩, fun b hb hm => by
  obtain rfl := List.mem_singleton.1 hm
  rcases List.mem_append.1 hb with hb | hb
  ·exact h.gx hb
  ·exact h.gy hb, rfl⟩, h.lo, h.er⟩
theorem Bz.glt (h : Bz es w0 p q mm F G g cs X Y w) : g < w.heap.size := (Array.getElem?_eq_some_iff.1 h.hg).1
theorem Bz.nl (h : Bz es w0 p q mm F G g cs X Y w) (hn : Nx (Pq es w0 p (mm + 1) F') X w w') : ∃ X', Bz es w0 p q (mm + 1) F' G g cs X' Y w' ∧ Kp X w w' := by
 obtain ⟨X', h1, hk, h2⟩ := hn
 have hlo := fun b hb => ((pq_ft es w0 p mm F).lt h.p b hb).1
 refine ⟨X', ⟨h1, dq_mono ((dq_ft w0 q mm G).kept h.d hk hlo (fun b hb hm => h.xy b hm hb)) (by omega), fun b hb hm => ?_, fun hm => ?_, h.gy, ((blk_ft (T := 33) (cs := cs) h.lo).kept ⟨h.hg, rfl⟩ hk hlo (fun b hb => by
  obtain rfl := List.mem_singleton.1 hb
  exact h.gx)).1, h.lo, h.er⟩, hk⟩
 ·rcases h2 b hb with h3 | h3
  ·exact h.xy b h3 hm
  ·have := ((dq_ft w0 q mm G).lt h.d b hm).2
   omega
 ·rcases h2 g hm with h3 | h3
  ·exact h.gx h3
  ·have := h.glt
   omega
theorem Bz.nr (h : Bz es w0 p q mm F G g cs X Y w) (hn : Nx (Dq w0 q (mm + 1) G') Y w w') : ∃ Y', Bz es w0 p q (mm + 1) F G' g cs X Y' w' ∧ Kp Y w w' := by
 obtain ⟨Y', h1, hk, h2⟩ := hn
 have hlo := fun b hb => ((dq_ft w0 q mm G).lt h.d b hb).1
 refine ⟨Y', ⟨pq_mono ((pq_ft es w0 p mm F).kept h.p hk hlo (fun b hb hm => h.xy b hb hm)) (by omega), h1, fun b hb hm => ?_, h.gx, fun hm => ?_, ((blk_ft (T := 33) (cs := cs) h.lo).kept ⟨h.hg, rfl⟩ hk hlo (fun b hb => by
  obtain rfl := List.mem_singleton.1 hb
  exact h.gy)).1, h.lo, h.er⟩, hk⟩
 ·rcases h2 b hm with h3 | h3
  ·exact h.xy b hb h3
  ·have := ((pq_ft es w0 p mm F).lt h.p b hb).2
   omega
 ·rcases h2 g hm with h3 | h3
  ·exact h.gy h3
  ·have := h.glt
   omega
theorem Bz.nx (h : Bz es w0 p q mm F G g cs X Y w) {b : Nat} (hb : b ∈ Y ∨ b < w0.heap.size) : b ∉ X := fun hm => by
 rcases hb with hb | hb
 ·exact h.xy b hm hb
 ·have := ((pq_ft es w0 p mm F).lt h.p b hm).1
  omega
theorem rz_kp {a : Option Addr} {n c : Nat} {l : List Int} (h : Rz w a n c l) (hk : Kp X w w') (hX : ∀ y, a = some y → 0 < n → y.block ∉ X) : Rz w' a n c l :=
 ⟨h.len, h.le, h.max, h.hnil, fun hn => by
  obtain ⟨b, off, rfl, h1, h2⟩ := h.pl hn
  exact ⟨b, off, rfl, Nat.lt_of_lt_of_le h1 hk.size, fun j z hz => hk.cell (h2 j z hz) (hX ⟨b, off, none⟩ rfl hn)⟩⟩
theorem pq_comw (hm : mm ≤ 900) (id : Int) (hi : Bt id) (h : Pq es w0 p mm F w X) : Calls Tryz.prog 25 #[.pointer (some ⟨p, 0, none⟩), .int .i64 id] w fun e w' => (∃ a c, e = .returned (.tuple #[.slice a (comB F id).2.length c, erv es (hasE F id)]) ∧ Rz w' a (comB F id).2.length c (comB F id).2 ∧ ∀ y, a = some y → w.heap.size ≤ y.block) ∧ Nx (Pq es w0 p (mm + 1) (comB F id).1) X w w' := by
 obtain ⟨g1, g2, g3, g4, m, L, hP, rfl, hl, rfl⟩ := h
 refine (fcommit_any hm g2 g3 hP g4 id hi).mono fun e w' ⟨L', vl, h1, h2, hR⟩ => ?_
 rw [g4.inv.comF] at h2 hR
 obtain ⟨a, c, rfl, hr⟩ := own_rz0 h2
 exact ⟨⟨a, c, h1, hr, fun y hy => own_fy (s := ⟨a, (comB (pab L) id).2.length, c, []⟩) h2 y hy⟩, pqx g1 g2 g3 hP hl hR (by rw [← g4.inv.comF]; exact g4.com 41 id)⟩
theorem Bq.lcom (h : Bq es w0 p q mm F G g cs w) (hm : mm ≤ 900) (id : Int) (hi : Bt id) : ∃ Y, (∀ b ∈ Y, b < w.heap.size) ∧ Calls Tryz.prog 25 #[.pointer (some ⟨p, 0, none⟩), .int .i64 id] w fun e w' => ∃ a c, e = .returned (.tuple #[.slice a (comB F id).2.length c, erv es (hasE F id)]) ∧ Rz w' a (comB F id).2.length c (comB F id).2 ∧ (∀ y, a = some y → y.block ∉ Y) ∧ ∃ X, Bz es w0 p q (mm + 1) (comB F id).1 G g cs X Y w' := by
 obtain ⟨X, Y, hz⟩ := h.bz
 have hlt := fun b hb => ((dq_ft w0 q mm G).lt hz.d b hb).2
 refine ⟨Y, hlt, (pq_comw hm id hi hz.p).mono fun _ _ ⟨⟨a, c, h1, h2, h3⟩, hn⟩ => ?_⟩
 obtain ⟨X', h4, _⟩ := hz.nl hn
 exact ⟨a, c, h1, h2, fun y hy hm => by
  have := h3 y hy
  have := hlt _ hm
  omega, X', h4⟩
theorem Bz.rcom (h : Bz es w0 p q mm F G g cs X Y w) (hm : mm ≤ 900) (id : Int) {a : Option Addr} {n c : Nat} {l : List Int} (hr : Rz w a n c l) (ha : ∀ y, a = some y → y.block ∉ Y) : Calls Tryz.prog 40 #[.pointer (some ⟨q, 0, none⟩), .int .i64 id] w fun e w' => ∃ a' c', e = .returned (.tuple #[.slice a' (comB G id).2.length c', .int .i64 (hasE G id : Nat)]) ∧ Rz w' a' (comB G id).2.length c' (comB G id).2 ∧ Rz w' a n c l ∧ Bq es w0 p q (mm + 1) F (comB G id).1 g cs w' :=
 (dq_com hm id w Y h.d).mono fun _ _ ⟨⟨a', c', h1, h2⟩, hn⟩ => by
  obtain ⟨Y', h3, hk⟩ := h.nr hn
  exact ⟨a', c', h1, h2, rz_kp hr hk (fun y hy _ => ha y hy), h3.bq⟩
theorem Bz.ltak (h : Bz es w0 p q mm F G g cs X Y w) (hm : mm ≤ 900) (id : Int) (hi : Bt id) {a : Option Addr} {n c : Nat} {l : List Int} (hr : Rz w a n c l) (ha : ∀ y, a = some y → 0 < n → y.block ∉ X) : Calls Tryz.prog 39 #[.pointer (some ⟨p, 0, none⟩), .int .i64 id] w fun e w' => ∃ s : Sl, e = .returned (.slice s.a s.n s.c) ∧ Rz w' s.a s.n s.c (un1 (takL F id)) ∧ Rz w' a n c l ∧ Bq es w0 p q (mm + 1) (upd F id takS) G g cs w' :=
 (pq_tak hm id hi w X h.p).mono fun _ _ ⟨⟨s, h1, h2, h3⟩, hn⟩ => by
  obtain ⟨X', h4, hk⟩ := h.nl hn
  exact ⟨s, h1, by rw [← h2]; exact rz_of_rdm h3, rz_kp hr hk ha, h4.bq⟩
theorem zeq_self (l : List Int) : zeq l l = true := by simp [zeq]
end
end Go.Proofs.YtdgknofpkafppaaGreatDoor
