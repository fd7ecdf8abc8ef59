/- Lemmas that the proof leans on. -/
import Derived.Test.YtkjempffidndeaaGreatDoorB37
import Derived.Deep.CutBlock
namespace Go.Proofs.YtkjempffidndeaaGreatDoor
open Go Go.RowKit
open List renaming getElem_toArray → lqA, getElem_cons_zero → lqB, getElem_cons_succ → lqC, setIfInBounds_toArray → lqD, set_cons_zero → lqE, set_cons_succ → lqF
set_option maxRecDepth 100000
set_option maxHeartbeats 4000000
section
theorem Oc17.on {x y : World} {g : Nat} {o : Oq} (h : Oc17 x g o) (hb : Below x.heap.size x y) : Oc17 y g o :=
 ⟨by rw [hb.cell h.lt]; exact h.c0, by rw [hb.cell h.lt]; exact h.c1, by rw [hb.cell h.lt]; exact h.c2, by rw [hb.cell h.lt]; exact h.c3, by rw [hb.cell h.lt]; exact h.c4, by rw [hb.cell h.lt]; exact h.c5, by rw [hb.cell h.lt]; exact h.c6, by rw [hb.cell h.lt]; exact h.c7, by rw [hb.cell h.lt]; exact h.c8, Nat.lt_of_lt_of_le h.lt hb.size⟩
theorem Oc17.kp {x y : World} {g : Nat} {o : Oq} {X : List Nat} (h : Oc17 x g o) (hk : Kp X x y) (hX : g ∉ X) : Oc17 y g o :=
 ⟨hk.cell h.c0 hX, hk.cell h.c1 hX, hk.cell h.c2 hX, hk.cell h.c3 hX, hk.cell h.c4 hX, hk.cell h.c5 hX, hk.cell h.c6 hX, hk.cell h.c7 hX, hk.cell h.c8 hX, Nat.lt_of_lt_of_le h.lt hk.size⟩
theorem Oc17.put {x : World} {g gd : Nat} {o : Oq} (h : Oc17 x g o) (hne : gd ≠ g) (j : Nat) (v : Value) : Oc17 (x.setCell ⟨gd, j, none⟩ v) g o :=
 h.kp ((Kp.refl [gd] x).set ⟨gd, j, none⟩ (by simp) v) (by simp only [List.mem_singleton]; exact fun e => hne e.symm)
end
section
variable {es : List Addr} {w0 w w' : World} {p q mm : Nat} {F : Fo}
theorem stp_att (h : B2q es w0 p q mm F w) (hm : mm ≤ 890) (o : Oq) (ok : o.Ok w) (hv : plc o.k 19 = 5) :
  Calls Tryz.prog 18 #[.pointer (some ⟨p, 0, none⟩), .pointer (some ⟨q, 0, none⟩), .agg #[.int .i64 o.k, .int .i64 o.id, .int .i64 o.a, .int .i64 o.b, .int .i64 o.x, .int .i64 o.y, .int .i64 o.w, .int .i64 o.h, .slice o.l.a o.l.n o.l.c]] w (StR es w0 p q mm) := by
 have hm1 : mm ≤ 900 := by omega
 have hm2 : mm + 1 ≤ 900 := by omega
 have hO := h.bo #[.int .i64 o.k, .int .i64 o.id, .int .i64 o.a, .int .i64 o.b, .int .i64 o.x, .int .i64 o.y, .int .i64 o.w, .int .i64 o.h, .slice o.l.a o.l.n o.l.c]
 have okl := ok.l.on (bel_new w (.cells #[.int .i64 o.k, .int .i64 o.id, .int .i64 o.a, .int .i64 o.b, .int .i64 o.x, .int .i64 o.y, .int .i64 o.w, .int .i64 o.h, .slice o.l.a o.l.n o.l.c] 57))
 have HP := hid (place_any o.k 19 ok.k (by omega) (by omega))
 rw [hv] at HP
 obtain ⟨Y, hY, hYg, hW⟩ := hO.dat
 obtain ⟨r, hc, hr⟩ := hY.s o.id
 have HC := hid hc
 have HW := hid hW
 have HOKL := hid okl
 clear h hc hv hW okl
 go_enter Tryz.func18, Tryz.ntmps18
 go_wp2_with fail
 refine HC.out.mono ?_
 rintro e W ⟨rfl, hW1⟩
 obtain rfl : W = _ := hW1
 clear HC
 generalize w.alloc (.cells #[.int .i64 o.k, .int .i64 o.id, .int .i64 o.a, .int .i64 o.b, .int .i64 o.x, .int .i64 o.y, .int .i64 o.w, .int .i64 o.h, .slice o.l.a o.l.n o.l.c] 57) = W at *
 generalize w.heap.size = g at *
 rcases hr with ⟨rfl, hno⟩ | ⟨gd, P, s, rfl, hys, hD⟩
 ·have hno' := hasE_no hno
  have hup : upd F o.id (attS o.a) = F := upd_no hno
  have oc := hO.oc
  have c0 := oc.c0
  have l0 := oc.lt
  go_wp2_with fail
  refine (HP.out _).mono ?_
  rintro e W1 ⟨rfl, hW2⟩
  obtain rfl : W1 = W := hW2
  clear HP c0 l0 oc
  obtain ⟨t0, t1, t2, t3, t4, t5, t6, t7, t8, t9⟩ := hO.oc
  have CA := hid (hO.left (pq_att hm1 o.id o.a ok.id ok.a))
  rw [hno', hup] at CA
  clear hO HW hY
  go_wp2_with fail
  refine CA.out.mono ?_
  rintro e W2 ⟨rfl, hO2⟩
  have CK := hid (hO2.kind 5 (by decide))
  clear hO2 CA
  go_wp2_with fail
  refine CK.out.mono ?_
  rintro e W3 ⟨rfl, hO3⟩
  have HF := hid hO3
  clear hO3 CK
  go_wp2
  go_ret
  exact ⟨rfl, _, HF.out.two (by omega)⟩
 ·have hgg : gd ≠ g := hYg gd hD.mem
  have oc := hO.oc
  have c0 := oc.c0
  have l0 := oc.lt
  go_wp2_with fail
  refine (HP.out _).mono ?_
  rintro e W1 ⟨rfl, hW2⟩
  obtain rfl : W1 = W := hW2
  clear HP c0 l0 oc
  go_upto_region 17 with fail
  obtain ⟨b1, d1⟩ := hD.att
  obtain ⟨b2, d2⟩ := hD.buf
  replace d1 : W1.drew.cell? ⟨gd, P + 3, none⟩ = some (.bool b1) := d1
  replace d2 : W1.drew.cell? ⟨gd, P + 3 + 1, none⟩ = some (.int .i64 b2) := d2
  have hfz : ∀ j, W1.drew.frozen? ⟨gd, j, none⟩ = false := hD.fz
  have hlt : gd < W1.drew.heap.size := hD.lt
  have HN := hid (HW.out _ _ (hD.watt W1.drew o.a (Below.refl _ _).drew ok.a))
  have hoc := hO.oc
  clear hO hY hD
  refine wp_region_held_drew (S := fun x => Oc17 x g o) (by kernel_rfl) ?hh (fun hHeld => ?_)
  case hh => exact (hoc.on (Below.refl _ _).drew)
  generalize W1.drew = V0 at hHeld HN d1 d2 hfz hlt ⊢
  try dsimp only at hHeld
  refine wpAnyH_take (i := 0) (v := ?_) rfl (by kernel_rfl) (by kernel_rfl) (by kernel_rfl) (fun _ _ _ h => h) (Or.inl ⟨by kernel_rfl, ?hy0⟩) (by assumption) ?_
  case hy0 => (intro wI hSw; (try dsimp only at hSw); obtain ⟨t0, t1, t2, t3, t4, t5, t6, t7, t8, t9⟩ := hSw; go_simp; try with_reducible rfl)
  try simp only [Act.put, lqA, lqB, lqD, lqE, lqF]
  refine wpAnyH_take (i := 1) (v := ?_) rfl (by kernel_rfl) (by kernel_rfl) (by kernel_rfl) (fun _ _ _ h => h) (Or.inl ⟨by kernel_rfl, ?hy1⟩) (by assumption) ?_
  case hy1 => (intro wI hSw; (try dsimp only at hSw); obtain ⟨t0, t1, t2, t3, t4, t5, t6, t7, t8, t9⟩ := hSw; go_simp; try with_reducible rfl)
  try simp only [Act.put, lqA, lqB, lqC, lqD, lqE, lqF]
  refine wpAnyH_take (i := 2) (v := ?_) rfl (by kernel_rfl) (by kernel_rfl) (by kernel_rfl) (fun _ _ _ h => h) (Or.inl ⟨by kernel_rfl, ?hy2⟩) (by assumption) ?_
  case hy2 => (intro wI hSw; (try dsimp only at hSw); obtain ⟨t0, t1, t2, t3, t4, t5, t6, t7, t8, t9⟩ := hSw; go_simp; try with_reducible rfl)
  try simp only [Act.put, lqA, lqB, lqC, lqD, lqE, lqF]
  refine wpAnyH_take (i := 3) (v := ?_) rfl (by kernel_rfl) (by kernel_rfl) (by kernel_rfl) (fun _ _ _ h => h) (Or.inl ⟨by kernel_rfl, ?hy3⟩) (by assumption) ?_
  case hy3 => (intro wI hSw; (try dsimp only at hSw); obtain ⟨t0, t1, t2, t3, t4, t5, t6, t7, t8, t9⟩ := hSw; go_simp; try with_reducible rfl)
  try simp only [Act.put, lqA, lqB, lqC, lqD, lqE, lqF]
  refine wpAnyH_take (i := 4) (v := ?_) rfl (by kernel_rfl) (by kernel_rfl) (by kernel_rfl) (fun _ _ _ h => h) (Or.inl ⟨by kernel_rfl, ?hy4⟩) (by assumption) ?_
  case hy4 => (intro wI hSw; (try dsimp only at hSw); obtain ⟨t0, t1, t2, t3, t4, t5, t6, t7, t8, t9⟩ := hSw; go_simp; try with_reducible rfl)
  try simp only [Act.put, lqA, lqB, lqC, lqD, lqE, lqF]
  refine wpAnyH_take (i := 5) (v := ?_) rfl (by kernel_rfl) (by kernel_rfl) (by kernel_rfl) (fun _ _ _ h => h) (Or.inl ⟨by kernel_rfl, ?hy5⟩) (by assumption) ?_
  case hy5 => (intro wI hSw; (try dsimp only at hSw); obtain ⟨t0, t1, t2, t3, t4, t5, t6, t7, t8, t9⟩ := hSw; go_simp; try with_reducible rfl)
  try simp only [Act.put, lqA, lqB, lqC, lqD, lqE, lqF]
  refine wpAnyH_take (i := 6) (v := ?_) rfl (by kernel_rfl) (by kernel_rfl) (by kernel_rfl) (fun _ _ _ h => h) (Or.inl ⟨by kernel_rfl, ?hy6⟩) (by assumption) ?_
  case hy6 => (intro wI hSw; (try dsimp only at hSw); obtain ⟨t0, t1, t2, t3, t4, t5, t6, t7, t8, t9⟩ := hSw; go_simp; try with_reducible rfl)
  try simp only [Act.put, lqA, lqB, lqC, lqD, lqE, lqF]
  refine wpAnyH_ready (rs := [7]) (by kernel_rfl) (by simp) ?_
  refine AllReadyH.cons rfl (fun K hK => ?_) AllReadyH.nil
  go_simp
  refine hK.out _ _ (hHeld.put hgg _ _) (fun _ => ?_)
  clear hK K
  try simp only [Act.put, lqA, lqB, lqC, lqD, lqE, lqF]
  refine wpAnyH_take (i := 8) (v := ?_) rfl (by kernel_rfl) (by kernel_rfl) (by kernel_rfl) (fun _ _ _ h => h) (Or.inl ⟨by kernel_rfl, ?hy8⟩) (by assumption) ?_
  case hy8 => (intro wI hSw; (try dsimp only at hSw); obtain ⟨t0, t1, t2, t3, t4, t5, t6, t7, t8, t9⟩ := hSw; go_simp; try with_reducible rfl)
  try simp only [Act.put, lqA, lqB, lqC, lqD, lqE, lqF]
  refine wpAnyH_take (i := 9) (v := ?_) rfl (by kernel_rfl) (by kernel_rfl) (by kernel_rfl) (fun _ _ _ h => h) (Or.inl ⟨by kernel_rfl, ?hy9⟩) (by assumption) ?_
  case hy9 => (intro wI hSw; (try dsimp only at hSw); obtain ⟨t0, t1, t2, t3, t4, t5, t6, t7, t8, t9⟩ := hSw; go_simp; try with_reducible rfl)
  try simp only [Act.put, lqA, lqB, lqC, lqD, lqE, lqF]
  refine wpAnyH_take (i := 10) (v := ?_) rfl (by kernel_rfl) (by kernel_rfl) (by kernel_rfl) (fun _ _ _ h => h) (Or.inl ⟨by kernel_rfl, ?hy10⟩) (by assumption) ?_
  case hy10 => (intro wI hSw; (try dsimp only at hSw); obtain ⟨t0, t1, t2, t3, t4, t5, t6, t7, t8, t9⟩ := hSw; go_simp; try with_reducible rfl)
  try simp only [Act.put, lqA, lqB, lqC, lqD, lqE, lqF]
  refine wpAnyH_ready (rs := [11]) (by kernel_rfl) (by simp) ?_
  refine AllReadyH.cons rfl (fun K hK => ?_) AllReadyH.nil
  go_simp
  refine hK.out _ _ ((hHeld.put hgg _ _).put hgg _ _) (fun _ => ?_)
  clear hK K
  try simp only [Act.put, lqA, lqB, lqC, lqD, lqE, lqF]
  refine wpAnyH_done (by kernel_rfl) ?_ _
  have hO2 := HN.out
  generalize (V0.setCell ⟨gd, P + 3, none⟩ (.bool true)).setCell ⟨gd, P + 3 + 1, none⟩ (.int .i64 o.a) = V9 at *
  clear hHeld HN d1 d2 hfz hlt
  have hys' := hasE_yes hys
  obtain ⟨t0, t1, t2, t3, t4, t5, t6, t7, t8, t9⟩ := hO2.oc
  have CA := hid (hO2.left (pq_att hm2 o.id o.a ok.id ok.a))
  rw [hys'] at CA
  clear hO2
  go_wp2_with fail
  refine CA.out.mono ?_
  rintro e Y2 ⟨rfl, hO3⟩
  have CK := hid (hO3.kind 0 (by decide))
  rw [show erv es 0 = .nilIface from rfl] at CK
  rw [show erv es 0 = .nilIface from rfl]
  clear hO3 CA
  go_wp2_with fail
  refine CK.out.mono ?_
  rintro e Y3 ⟨rfl, hO4⟩
  have HF := hid hO4
  clear hO4 CK
  go_wp2
  go_ret
  exact ⟨rfl, _, HF.out.two (by omega)⟩
end
section
variable {es : List Addr} {w0 w w' : World} {p q mm : Nat} {F : Fo}
theorem stp_inpa (h : B2q es w0 p q mm F w) (hm : mm ≤ 890) (o : Oq) (ok : o.Ok w) (hv : plc o.k 19 = 8) (hn : o.l.n ≤ 20) (hl0 : RdM 4 w0 o.l.a o.l.n o.l.c o.l.l) (_hlo : ∀ y, o.l.a = some y → 0 < o.l.n → y.block < w0.heap.size) (hz : bits .and .i64 o.a 1 = 0) :
  Calls Tryz.prog 18 #[.pointer (some ⟨p, 0, none⟩), .pointer (some ⟨q, 0, none⟩), .agg #[.int .i64 o.k, .int .i64 o.id, .int .i64 o.a, .int .i64 o.b, .int .i64 o.x, .int .i64 o.y, .int .i64 o.w, .int .i64 o.h, .slice o.l.a o.l.n o.l.c]] w (StR es w0 p q mm) := by
 have hm1 : mm ≤ 900 := by omega
 have hm2 : mm + 1 ≤ 900 := by omega
 have hO := h.bo #[.int .i64 o.k, .int .i64 o.id, .int .i64 o.a, .int .i64 o.b, .int .i64 o.x, .int .i64 o.y, .int .i64 o.w, .int .i64 o.h, .slice o.l.a o.l.n o.l.c]
 have okl := ok.l.on (bel_new w (.cells #[.int .i64 o.k, .int .i64 o.id, .int .i64 o.a, .int .i64 o.b, .int .i64 o.x, .int .i64 o.y, .int .i64 o.w, .int .i64 o.h, .slice o.l.a o.l.n o.l.c] 57))
 have HP := hid (place_any o.k 19 ok.k (by omega) (by omega))
 rw [hv] at HP
 obtain ⟨Y, hY, hYg, hW⟩ := hO.dat
 obtain ⟨r, hc, hr⟩ := hY.s o.id
 have HC := hid hc
 have HW := hid hW
 have HOKL := hid okl
 clear h hc hv hW okl
 go_enter Tryz.func18, Tryz.ntmps18
 go_wp2_with fail
 refine HC.out.mono ?_
 rintro e W ⟨rfl, hW1⟩
 obtain rfl : W = _ := hW1
 clear HC
 generalize w.alloc (.cells #[.int .i64 o.k, .int .i64 o.id, .int .i64 o.a, .int .i64 o.b, .int .i64 o.x, .int .i64 o.y, .int .i64 o.w, .int .i64 o.h, .slice o.l.a o.l.n o.l.c] 57) = W at *
 generalize w.heap.size = g at *
 have HL0 := hid hl0
 clear hl0 HOKL
 rcases hr with ⟨rfl, hno⟩ | ⟨gd, P, s, rfl, hys, hD⟩
 ·have hno' := hasE_no hno
  have hup : upd F o.id (inpS true o.l.l) = F := upd_no hno
  have oc := hO.oc
  have c0 := oc.c0
  have l0 := oc.lt
  go_wp2_with fail
  refine (HP.out _).mono ?_
  rintro e W1 ⟨rfl, hW2⟩
  obtain rfl : W1 = W := hW2
  clear HP c0 l0 oc
  clear HW hY hYg
  go_upto_region 32 with fail
  have hO5 := hO.drew
  have hoc5 := hO5.oc
  clear hO
  refine wp_region_held_drew (S := fun x => Oc17 x g o) (by kernel_rfl) ?hh (fun hHeld => ?_)
  case hh => exact (hoc5)
  generalize W1.drew = U0 at hHeld hO5 ⊢
  try dsimp only at hHeld
  refine wpAnyH_take (i := 0) (v := ?_) rfl (by kernel_rfl) (by kernel_rfl) (by kernel_rfl) (fun _ _ _ h => h) (Or.inl ⟨by kernel_rfl, ?hy0⟩) (by assumption) ?_
  case hy0 => (intro wI hSw; (try dsimp only at hSw); obtain ⟨t0, t1, t2, t3, t4, t5, t6, t7, t8, t9⟩ := hSw; go_simp; try with_reducible rfl)
  try simp only [Act.put, lqA, lqB, lqD, lqE, lqF]
  refine wpAnyH_take (i := 1) (v := ?_) rfl (by kernel_rfl) (by kernel_rfl) (by kernel_rfl) (fun _ _ _ h => h) (Or.inl ⟨by kernel_rfl, ?hy1⟩) (by assumption) ?_
  case hy1 => (intro wI hSw; (try dsimp only at hSw); obtain ⟨t0, t1, t2, t3, t4, t5, t6, t7, t8, t9⟩ := hSw; go_simp; try with_reducible rfl)
  try simp only [Act.put, lqA, lqB, lqC, lqD, lqE, lqF]
  refine wpAnyH_take (i := 2) (v := ?_) rfl (by kernel_rfl) (by kernel_rfl) (by kernel_rfl) (fun _ _ _ h => h) (Or.inl ⟨by kernel_rfl, ?hy2⟩) (by assumption) ?_
  case hy2 => (intro wI hSw; (try dsimp only at hSw); obtain ⟨t0, t1, t2, t3, t4, t5, t6, t7, t8, t9⟩ := hSw; go_simp; try with_reducible rfl)
  try simp only [Act.put, lqA, lqB, lqC, lqD, lqE, lqF]
  refine wpAnyH_take (i := 3) (v := ?_) rfl (by kernel_rfl) (by kernel_rfl) (by kernel_rfl) (fun _ _ _ h => h) (Or.inl ⟨by kernel_rfl, ?hy3⟩) (by assumption) ?_
  case hy3 => (intro wI hSw; (try dsimp only at hSw); obtain ⟨t0, t1, t2, t3, t4, t5, t6, t7, t8, t9⟩ := hSw; go_simp; try with_reducible rfl)
  try simp only [Act.put, lqA, lqB, lqC, lqD, lqE, lqF]
  refine wpAnyH_take (i := 4) (v := ?_) rfl (by kernel_rfl) (by kernel_rfl) (by kernel_rfl) (fun _ _ _ h => h) (Or.inl ⟨by kernel_rfl, ?hy4⟩) (by assumption) ?_
  case hy4 => (intro wI hSw; (try dsimp only at hSw); obtain ⟨t0, t1, t2, t3, t4, t5, t6, t7, t8, t9⟩ := hSw; go_simp; try with_reducible rfl)
  try simp only [Act.put, lqA, lqB, lqC, lqD, lqE, lqF]
  refine wpAnyH_take (i := 5) (v := ?_) rfl (by kernel_rfl) (by kernel_rfl) (by kernel_rfl) (fun _ _ _ h => h) (Or.inl ⟨by kernel_rfl, ?hy5⟩) (by assumption) ?_
  case hy5 => (intro wI hSw; (try dsimp only at hSw); obtain ⟨t0, t1, t2, t3, t4, t5, t6, t7, t8, t9⟩ := hSw; go_simp; try with_reducible rfl)
  try simp only [Act.put, lqA, lqB, lqC, lqD, lqE, lqF]
  refine wpAnyH_take (i := 6) (v := ?_) rfl (by kernel_rfl) (by kernel_rfl) (by kernel_rfl) (fun _ _ _ h => h) (Or.inl ⟨by kernel_rfl, ?hy6⟩) (by assumption) ?_
  case hy6 => (intro wI hSw; (try dsimp only at hSw); obtain ⟨t0, t1, t2, t3, t4, t5, t6, t7, t8, t9⟩ := hSw; go_simp; try with_reducible rfl)
  try simp only [Act.put, lqA, lqB, lqC, lqD, lqE, lqF]
  refine wpAnyH_take (i := 7) (v := ?_) rfl (by kernel_rfl) (by kernel_rfl) (by kernel_rfl) (fun _ _ _ h => h) (Or.inl ⟨by kernel_rfl, ?hy7⟩) (by assumption) ?_
  case hy7 => (intro wI hSw; (try dsimp only at hSw); obtain ⟨t0, t1, t2, t3, t4, t5, t6, t7, t8, t9⟩ := hSw; go_simp; try with_reducible rfl)
  try simp only [Act.put, lqA, lqB, lqC, lqD, lqE, lqF]
  refine wpAnyH_take (i := 8) (v := ?_) rfl (by kernel_rfl) (by kernel_rfl) (by kernel_rfl) (fun _ _ _ h => h) (Or.inl ⟨by kernel_rfl, ?hy8⟩) (by assumption) ?_
  case hy8 => (intro wI hSw; (try dsimp only at hSw); obtain ⟨t0, t1, t2, t3, t4, t5, t6, t7, t8, t9⟩ := hSw; go_simp; try with_reducible rfl)
  try simp only [Act.put, lqA, lqB, lqC, lqD, lqE, lqF]
  refine wpAnyH_take (i := 12) (v := ?_) rfl (by kernel_rfl) (by kernel_rfl) (by kernel_rfl) (fun _ _ _ h => h) (Or.inl ⟨by kernel_rfl, ?hy12⟩) (by assumption) ?_
  case hy12 => (intro wI hSw; (try dsimp only at hSw); obtain ⟨t0, t1, t2, t3, t4, t5, t6, t7, t8, t9⟩ := hSw; go_simp; try with_reducible rfl)
  try simp only [Act.put, lqA, lqB, lqC, lqD, lqE, lqF]
  refine wpAnyH_ready (rs := [9]) (by kernel_rfl) (by simp) ?_
  refine AllReadyH.cons rfl (fun K hK => ?_) AllReadyH.nil
  go_simp
  go_wp2_with fail
  refine (lrects_any o.l.a o.l.n o.l.c o.l.l U0 (HL0.out.on hO5.bel) (by omega)).mono ?_
  rintro e W9 ⟨v1, rfl, hv1⟩
  have hb1 := hv1.bel
  have hH2 := hHeld.on hb1
  obtain ⟨s2, rfl, hsn, hsl, hsr, hso⟩ := own_sl hv1.own rfl hv1.size
  have CI := hid (hO5.inp o.id ok.id true s2 hb1 hsr (by rw [hsn]; have := HL0.out.len; omega) (fun y hy _ => own_fy hso y hy))
  rw [hsl, hno', hup] at CI
  rw [Sl.v]
  refine hK.out _ _ hH2 (fun _ => ?_)
  clear hK K hHeld hb1 hv1 hsn hsl hsr hso hO5
  have hHeld := hH2
  clear hH2
  try simp only [Act.put, lqA, lqB, lqC, lqD, lqE, lqF]
  refine wpAnyH_ready (rs := [10]) (by kernel_rfl) (by simp) ?_
  refine AllReadyH.cons rfl (fun K hK => ?_) AllReadyH.nil
  go_simp
  go_wp2_with fail
  refine CI.out.mono ?_
  rintro e W10 ⟨rfl, hO6⟩
  have hH2 := hO6.oc
  have CK := hid (hO6.kind 5 (by decide))
  try rw [show erv es 0 = .nilIface from rfl] at CK
  try rw [show erv es 0 = .nilIface from rfl]
  refine hK.out _ _ hH2 (fun _ => ?_)
  clear hK K hHeld CI hO6
  have hHeld := hH2
  clear hH2
  try simp only [Act.put, lqA, lqB, lqC, lqD, lqE, lqF]
  refine wpAnyH_ready (rs := [11]) (by kernel_rfl) (by simp) ?_
  refine AllReadyH.cons rfl (fun K hK => ?_) AllReadyH.nil
  go_simp
  go_wp2_with fail
  refine CK.out.mono ?_
  rintro e W11 ⟨rfl, hO7⟩
  have hH2 := hO7.oc
  have HF := hid hO7
  refine hK.out _ _ hH2 (fun _ => ?_)
  clear hK K hHeld CK hO7
  have hHeld := hH2
  clear hH2
  try simp only [Act.put, lqA, lqB, lqC, lqD, lqE, lqF]
  refine wpAnyH_take (i := 13) (v := ?_) rfl (by kernel_rfl) (by kernel_rfl) (by kernel_rfl) (fun _ _ _ h => h) (Or.inl ⟨by kernel_rfl, ?hy13⟩) (by assumption) ?_
  case hy13 => (intro wI hSw; (try dsimp only at hSw); obtain ⟨t0, t1, t2, t3, t4, t5, t6, t7, t8, t9⟩ := hSw; go_simp; try with_reducible rfl)
  try simp only [Act.put, lqA, lqB, lqC, lqD, lqE, lqF]
  refine wpAnyH_take (i := 14) (v := ?_) rfl (by kernel_rfl) (by kernel_rfl) (by kernel_rfl) (fun _ _ _ h => h) (Or.inl ⟨by kernel_rfl, ?hy14⟩) (by assumption) ?_
  case hy14 => (intro wI hSw; (try dsimp only at hSw); obtain ⟨t0, t1, t2, t3, t4, t5, t6, t7, t8, t9⟩ := hSw; go_simp; try with_reducible rfl)
  try simp only [Act.put, lqA, lqB, lqC, lqD, lqE, lqF]
  refine wpAnyH_done (by kernel_rfl) ?_ _
  go_wp2
  go_ret
  exact ⟨rfl, _, HF.out.two (by omega)⟩
 ·have hgg : gd ≠ g := hYg gd hD.mem
  have hys' := hasE_yes hys
  have oc := hO.oc
  have c0 := oc.c0
  have l0 := oc.lt
  go_wp2_with fail
  refine (HP.out _).mono ?_
  rintro e W1 ⟨rfl, hW2⟩
  obtain rfl : W1 = W := hW2
  clear HP c0 l0 oc
  go_upto_region 29 with fail
  obtain ⟨b1, d1⟩ := hD.inp
  obtain ⟨b2, d2⟩ := hD.all
  obtain ⟨l3, d3⟩ := hD.rg
  replace d1 : W1.drew.cell? ⟨gd, P + 3 + 4, none⟩ = some (.bool b1) := d1
  replace d2 : W1.drew.cell? ⟨gd, P + 3 + 5, none⟩ = some (.bool b2) := d2
  replace d3 : W1.drew.cell? ⟨gd, P + 3 + 6, none⟩ = some (.slice l3.a l3.n l3.c) := d3
  have hfz : ∀ j, W1.drew.frozen? ⟨gd, j, none⟩ = false := hD.fz
  have hlt : gd < W1.drew.heap.size := hD.lt
  have HN := hid (HW.out _ _ (hD.wall W1.drew o.l.l (Below.refl _ _).drew (by rw [HL0.out.len]; exact hn)))
  have hoc := hO.oc
  clear hO hY hD hYg HW
  refine wp_region_held_drew (S := fun x => Oc17 x g o) (by kernel_rfl) ?hh (fun hHeld => ?_)
  case hh => exact (hoc.on (Below.refl _ _).drew)
  generalize W1.drew = V0 at hHeld HN d1 d2 d3 hfz hlt ⊢
  try dsimp only at hHeld
  refine wpAnyH_take (i := 0) (v := ?_) rfl (by kernel_rfl) (by kernel_rfl) (by kernel_rfl) (fun _ _ _ h => h) (Or.inl ⟨by kernel_rfl, ?hy0⟩) (by assumption) ?_
  case hy0 => (intro wI hSw; (try dsimp only at hSw); obtain ⟨t0, t1, t2, t3, t4, t5, t6, t7, t8, t9⟩ := hSw; go_simp; try with_reducible rfl)
  try simp only [Act.put, lqA, lqB, lqD, lqE, lqF]
  refine wpAnyH_take (i := 1) (v := ?_) rfl (by kernel_rfl) (by kernel_rfl) (by kernel_rfl) (fun _ _ _ h => h) (Or.inl ⟨by kernel_rfl, ?hy1⟩) (by assumption) ?_
  case hy1 => (intro wI hSw; (try dsimp only at hSw); obtain ⟨t0, t1, t2, t3, t4, t5, t6, t7, t8, t9⟩ := hSw; go_simp; try with_reducible rfl)
  try simp only [Act.put, lqA, lqB, lqC, lqD, lqE, lqF]
  refine wpAnyH_take (i := 2) (v := ?_) rfl (by kernel_rfl) (by kernel_rfl) (by kernel_rfl) (fun _ _ _ h => h) (Or.inl ⟨by kernel_rfl, ?hy2⟩) (by assumption) ?_
  case hy2 => (intro wI hSw; (try dsimp only at hSw); obtain ⟨t0, t1, t2, t3, t4, t5, t6, t7, t8, t9⟩ := hSw; go_simp; try with_reducible rfl)
  try simp only [Act.put, lqA, lqB, lqC, lqD, lqE, lqF]
  refine wpAnyH_take (i := 3) (v := ?_) rfl (by kernel_rfl) (by kernel_rfl) (by kernel_rfl) (fun _ _ _ h => h) (Or.inl ⟨by kernel_rfl, ?hy3⟩) (by assumption) ?_
  case hy3 => (intro wI hSw; (try dsimp only at hSw); obtain ⟨t0, t1, t2, t3, t4, t5, t6, t7, t8, t9⟩ := hSw; go_simp; try with_reducible rfl)
  try simp only [Act.put, lqA, lqB, lqC, lqD, lqE, lqF]
  refine wpAnyH_take (i := 4) (v := ?_) rfl (by kernel_rfl) (by kernel_rfl) (by kernel_rfl) (fun _ _ _ h => h) (Or.inl ⟨by kernel_rfl, ?hy4⟩) (by assumption) ?_
  case hy4 => (intro wI hSw; (try dsimp only at hSw); obtain ⟨t0, t1, t2, t3, t4, t5, t6, t7, t8, t9⟩ := hSw; go_simp; try with_reducible rfl)
  try simp only [Act.put, lqA, lqB, lqC, lqD, lqE, lqF]
  refine wpAnyH_take (i := 5) (v := ?_) rfl (by kernel_rfl) (by kernel_rfl) (by kernel_rfl) (fun _ _ _ h => h) (Or.inl ⟨by kernel_rfl, ?hy5⟩) (by assumption) ?_
  case hy5 => (intro wI hSw; (try dsimp only at hSw); obtain ⟨t0, t1, t2, t3, t4, t5, t6, t7, t8, t9⟩ := hSw; go_simp; try with_reducible rfl)
  try simp only [Act.put, lqA, lqB, lqC, lqD, lqE, lqF]
  refine wpAnyH_take (i := 6) (v := ?_) rfl (by kernel_rfl) (by kernel_rfl) (by kernel_rfl) (fun _ _ _ h => h) (Or.inl ⟨by kernel_rfl, ?hy6⟩) (by assumption) ?_
  case hy6 => (intro wI hSw; (try dsimp only at hSw); obtain ⟨t0, t1, t2, t3, t4, t5, t6, t7, t8, t9⟩ := hSw; go_simp; try with_reducible rfl)
  try simp only [Act.put, lqA, lqB, lqC, lqD, lqE, lqF]
  refine wpAnyH_take (i := 7) (v := ?_) rfl (by kernel_rfl) (by kernel_rfl) (by kernel_rfl) (fun _ _ _ h => h) (Or.inl ⟨by kernel_rfl, ?hy7⟩) (by assumption) ?_
  case hy7 => (intro wI hSw; (try dsimp only at hSw); obtain ⟨t0, t1, t2, t3, t4, t5, t6, t7, t8, t9⟩ := hSw; go_simp; try with_reducible rfl)
  try simp only [Act.put, lqA, lqB, lqC, lqD, lqE, lqF]
  refine wpAnyH_take (i := 8) (v := ?_) rfl (by kernel_rfl) (by kernel_rfl) (by kernel_rfl) (fun _ _ _ h => h) (Or.inl ⟨by kernel_rfl, ?hy8⟩) (by assumption) ?_
  case hy8 => (intro wI hSw; (try dsimp only at hSw); obtain ⟨t0, t1, t2, t3, t4, t5, t6, t7, t8, t9⟩ := hSw; go_simp; try with_reducible rfl)
  try simp only [Act.put, lqA, lqB, lqC, lqD, lqE, lqF]
  refine wpAnyH_take (i := 9) (v := ?_) rfl (by kernel_rfl) (by kernel_rfl) (by kernel_rfl) (fun _ _ _ h => h) (Or.inl ⟨by kernel_rfl, ?hy9⟩) (by assumption) ?_
  case hy9 => (intro wI hSw; (try dsimp only at hSw); obtain ⟨t0, t1, t2, t3, t4, t5, t6, t7, t8, t9⟩ := hSw; go_simp; try with_reducible rfl)
  try simp only [Act.put, lqA, lqB, lqC, lqD, lqE, lqF]
  refine wpAnyH_ready (rs := [10]) (by kernel_rfl) (by simp) ?_
  refine AllReadyH.cons rfl (fun K hK => ?_) AllReadyH.nil
  go_simp
  refine hK.out _ _ (hHeld.put hgg _ _) (fun _ => ?_)
  clear hK K
  try simp only [Act.put, lqA, lqB, lqC, lqD, lqE, lqF]
  refine wpAnyH_take (i := 11) (v := ?_) rfl (by kernel_rfl) (by kernel_rfl) (by kernel_rfl) (fun _ _ _ h => h) (Or.inl ⟨by kernel_rfl, ?hy11⟩) (by assumption) ?_
  case hy11 => (intro wI hSw; (try dsimp only at hSw); obtain ⟨t0, t1, t2, t3, t4, t5, t6, t7, t8, t9⟩ := hSw; go_simp; try with_reducible rfl)
  try simp only [Act.put, lqA, lqB, lqC, lqD, lqE, lqF]
  refine wpAnyH_take (i := 12) (v := ?_) rfl (by kernel_rfl) (by kernel_rfl) (by kernel_rfl) (fun _ _ _ h => h) (Or.inl ⟨by kernel_rfl, ?hy12⟩) (by assumption) ?_
  case hy12 => (intro wI hSw; (try dsimp only at hSw); obtain ⟨t0, t1, t2, t3, t4, t5, t6, t7, t8, t9⟩ := hSw; go_simp; try with_reducible rfl)
  try simp only [Act.put, lqA, lqB, lqC, lqD, lqE, lqF]
  refine wpAnyH_take (i := 13) (v := ?_) rfl (by kernel_rfl) (by kernel_rfl) (by kernel_rfl) (fun _ _ _ h => h) (Or.inl ⟨by kernel_rfl, ?hy13⟩) (by assumption) ?_
  case hy13 => (intro wI hSw; (try dsimp only at hSw); obtain ⟨t0, t1, t2, t3, t4, t5, t6, t7, t8, t9⟩ := hSw; go_simp; try with_reducible rfl)
  try simp only [Act.put, lqA, lqB, lqC, lqD, lqE, lqF]
  refine wpAnyH_ready (rs := [14]) (by kernel_rfl) (by simp) ?_
  refine AllReadyH.cons rfl (fun K hK => ?_) AllReadyH.nil
  go_simp
  refine hK.out _ _ ((hHeld.put hgg _ _).put hgg _ _) (fun _ => ?_)
  clear hK K
  try simp only [Act.put, lqA, lqB, lqC, lqD, lqE, lqF]
  refine wpAnyH_take (i := 15) (v := ?_) rfl (by kernel_rfl) (by kernel_rfl) (by kernel_rfl) (fun _ _ _ h => h) (Or.inl ⟨by kernel_rfl, ?hy15⟩) (by assumption) ?_
  case hy15 => (intro wI hSw; (try dsimp only at hSw); obtain ⟨t0, t1, t2, t3, t4, t5, t6, t7, t8, t9⟩ := hSw; go_simp; try with_reducible rfl)
  try simp only [Act.put, lqA, lqB, lqC, lqD, lqE, lqF]
  refine wpAnyH_take (i := 16) (v := ?_) rfl (by kernel_rfl) (by kernel_rfl) (by kernel_rfl) (fun _ _ _ h => h) (Or.inl ⟨by kernel_rfl, ?hy16⟩) (by assumption) ?_
  case hy16 => (intro wI hSw; (try dsimp only at hSw); obtain ⟨t0, t1, t2, t3, t4, t5, t6, t7, t8, t9⟩ := hSw; go_simp; try with_reducible rfl)
  try simp only [Act.put, lqA, lqB, lqC, lqD, lqE, lqF]
  refine wpAnyH_take (i := 17) (v := ?_) rfl (by kernel_rfl) (by kernel_rfl) (by kernel_rfl) (fun _ _ _ h => h) (Or.inl ⟨by kernel_rfl, ?hy17⟩) (by assumption) ?_
  case hy17 => (intro wI hSw; (try dsimp only at hSw); obtain ⟨t0, t1, t2, t3, t4, t5, t6, t7, t8, t9⟩ := hSw; go_simp; try with_reducible rfl)
  try simp only [Act.put, lqA, lqB, lqC, lqD, lqE, lqF]
  refine wpAnyH_ready (rs := [18]) (by kernel_rfl) (by simp) ?_
  refine AllReadyH.cons rfl (fun K hK => ?_) AllReadyH.nil
  go_simp
  refine hK.out _ _ (((hHeld.put hgg _ _).put hgg _ _).put hgg _ _) (fun _ => ?_)
  clear hK K
  try simp only [Act.put, lqA, lqB, lqC, lqD, lqE, lqF]
  refine wpAnyH_done (by kernel_rfl) ?_ _
  have hO2 := HN.out
  generalize ((V0.setCell ⟨gd, P + 3 + 4, none⟩ (.bool true)).setCell ⟨gd, P + 3 + 5, none⟩ (.bool true)).setCell ⟨gd, P + 3 + 6, none⟩ (.slice none 0 0) = V9 at *
  clear hHeld HN d1 d2 d3 hfz hlt
  have oc := hO2.oc
  have c2 := oc.c2
  have l0 := oc.lt
  go_upto_region 32 with fail
  clear oc c2 l0
  have hO5 := hO2.drew
  have hoc5 := hO5.oc
  clear hO2
  refine wp_region_held_drew (S := fun x => Oc17 x g o) (by kernel_rfl) ?hh (fun hHeld => ?_)
  case hh => exact (hoc5)
  generalize V9.drew = U0 at hHeld hO5 ⊢
  try dsimp only at hHeld
  refine wpAnyH_take (i := 0) (v := ?_) rfl (by kernel_rfl) (by kernel_rfl) (by kernel_rfl) (fun _ _ _ h => h) (Or.inl ⟨by kernel_rfl, ?hy0⟩) (by assumption) ?_
  case hy0 => (intro wI hSw; (try dsimp only at hSw); obtain ⟨t0, t1, t2, t3, t4, t5, t6, t7, t8, t9⟩ := hSw; go_simp; try with_reducible rfl)
  try simp only [Act.put, lqA, lqB, lqD, lqE, lqF]
  refine wpAnyH_take (i := 1) (v := ?_) rfl (by kernel_rfl) (by kernel_rfl) (by kernel_rfl) (fun _ _ _ h => h) (Or.inl ⟨by kernel_rfl, ?hy1⟩) (by assumption) ?_
  case hy1 => (intro wI hSw; (try dsimp only at hSw); obtain ⟨t0, t1, t2, t3, t4, t5, t6, t7, t8, t9⟩ := hSw; go_simp; try with_reducible rfl)
  try simp only [Act.put, lqA, lqB, lqC, lqD, lqE, lqF]
  refine wpAnyH_take (i := 2) (v := ?_) rfl (by kernel_rfl) (by kernel_rfl) (by kernel_rfl) (fun _ _ _ h => h) (Or.inl ⟨by kernel_rfl, ?hy2⟩) (by assumption) ?_
  case hy2 => (intro wI hSw; (try dsimp only at hSw); obtain ⟨t0, t1, t2, t3, t4, t5, t6, t7, t8, t9⟩ := hSw; go_simp; try with_reducible rfl)
  try simp only [Act.put, lqA, lqB, lqC, lqD, lqE, lqF]
  refine wpAnyH_take (i := 3) (v := ?_) rfl (by kernel_rfl) (by kernel_rfl) (by kernel_rfl) (fun _ _ _ h => h) (Or.inl ⟨by kernel_rfl, ?hy3⟩) (by assumption) ?_
  case hy3 => (intro wI hSw; (try dsimp only at hSw); obtain ⟨t0, t1, t2, t3, t4, t5, t6, t7, t8, t9⟩ := hSw; go_simp; try with_reducible rfl)
  try simp only [Act.put, lqA, lqB, lqC, lqD, lqE, lqF]
  refine wpAnyH_take (i := 4) (v := ?_) rfl (by kernel_rfl) (by kernel_rfl) (by kernel_rfl) (fun _ _ _ h => h) (Or.inl ⟨by kernel_rfl, ?hy4⟩) (by assumption) ?_
  case hy4 => (intro wI hSw; (try dsimp only at hSw); obtain ⟨t0, t1, t2, t3, t4, t5, t6, t7, t8, t9⟩ := hSw; go_simp; try with_reducible rfl)
  try simp only [Act.put, lqA, lqB, lqC, lqD, lqE, lqF]
  refine wpAnyH_take (i := 5) (v := ?_) rfl (by kernel_rfl) (by kernel_rfl) (by kernel_rfl) (fun _ _ _ h => h) (Or.inl ⟨by kernel_rfl, ?hy5⟩) (by assumption) ?_
  case hy5 => (intro wI hSw; (try dsimp only at hSw); obtain ⟨t0, t1, t2, t3, t4, t5, t6, t7, t8, t9⟩ := hSw; go_simp; try with_reducible rfl)
  try simp only [Act.put, lqA, lqB, lqC, lqD, lqE, lqF]
  refine wpAnyH_take (i := 6) (v := ?_) rfl (by kernel_rfl) (by kernel_rfl) (by kernel_rfl) (fun _ _ _ h => h) (Or.inl ⟨by kernel_rfl, ?hy6⟩) (by assumption) ?_
  case hy6 => (intro wI hSw; (try dsimp only at hSw); obtain ⟨t0, t1, t2, t3, t4, t5, t6, t7, t8, t9⟩ := hSw; go_simp; try with_reducible rfl)
  try simp only [Act.put, lqA, lqB, lqC, lqD, lqE, lqF]
  refine wpAnyH_take (i := 7) (v := ?_) rfl (by kernel_rfl) (by kernel_rfl) (by kernel_rfl) (fun _ _ _ h => h) (Or.inl ⟨by kernel_rfl, ?hy7⟩) (by assumption) ?_
  case hy7 => (intro wI hSw; (try dsimp only at hSw); obtain ⟨t0, t1, t2, t3, t4, t5, t6, t7, t8, t9⟩ := hSw; go_simp; try with_reducible rfl)
  try simp only [Act.put, lqA, lqB, lqC, lqD, lqE, lqF]
  refine wpAnyH_take (i := 8) (v := ?_) rfl (by kernel_rfl) (by kernel_rfl) (by kernel_rfl) (fun _ _ _ h => h) (Or.inl ⟨by kernel_rfl, ?hy8⟩) (by assumption) ?_
  case hy8 => (intro wI hSw; (try dsimp only at hSw); obtain ⟨t0, t1, t2, t3, t4, t5, t6, t7, t8, t9⟩ := hSw; go_simp; try with_reducible rfl)
  try simp only [Act.put, lqA, lqB, lqC, lqD, lqE, lqF]
  refine wpAnyH_take (i := 12) (v := ?_) rfl (by kernel_rfl) (by kernel_rfl) (by kernel_rfl) (fun _ _ _ h => h) (Or.inl ⟨by kernel_rfl, ?hy12⟩) (by assumption) ?_
  case hy12 => (intro wI hSw; (try dsimp only at hSw); obtain ⟨t0, t1, t2, t3, t4, t5, t6, t7, t8, t9⟩ := hSw; go_simp; try with_reducible rfl)
  try simp only [Act.put, lqA, lqB, lqC, lqD, lqE, lqF]
  refine wpAnyH_ready (rs := [9]) (by kernel_rfl) (by simp) ?_
  refine AllReadyH.cons rfl (fun K hK => ?_) AllReadyH.nil
  go_simp
  go_wp2_with fail
  refine (lrects_any o.l.a o.l.n o.l.c o.l.l U0 (HL0.out.on hO5.bel) (by omega)).mono ?_
  rintro e W9 ⟨v1, rfl, hv1⟩
  have hb1 := hv1.bel
  have hH2 := hHeld.on hb1
  obtain ⟨s2, rfl, hsn, hsl, hsr, hso⟩ := own_sl hv1.own rfl hv1.size
  have CI := hid (hO5.inp o.id ok.id true s2 hb1 hsr (by rw [hsn]; have := HL0.out.len; omega) (fun y hy _ => own_fy hso y hy))
  rw [hsl, hys'] at CI
  rw [Sl.v]
  refine hK.out _ _ hH2 (fun _ => ?_)
  clear hK K hHeld hb1 hv1 hsn hsl hsr hso hO5
  have hHeld := hH2
  clear hH2
  try simp only [Act.put, lqA, lqB, lqC, lqD, lqE, lqF]
  refine wpAnyH_ready (rs := [10]) (by kernel_rfl) (by simp) ?_
  refine AllReadyH.cons rfl (fun K hK => ?_) AllReadyH.nil
  go_simp
  go_wp2_with fail
  refine CI.out.mono ?_
  rintro e W10 ⟨rfl, hO6⟩
  have hH2 := hO6.oc
  have CK := hid (hO6.kind 0 (by decide))
  try rw [show erv es 0 = .nilIface from rfl] at CK
  try rw [show erv es 0 = .nilIface from rfl]
  refine hK.out _ _ hH2 (fun _ => ?_)
  clear hK K hHeld CI hO6
  have hHeld := hH2
  clear hH2
  try simp only [Act.put, lqA, lqB, lqC, lqD, lqE, lqF]
  refine wpAnyH_ready (rs := [11]) (by kernel_rfl) (by simp) ?_
  refine AllReadyH.cons rfl (fun K hK => ?_) AllReadyH.nil
  go_simp
  go_wp2_with fail
  refine CK.out.mono ?_
  rintro e W11 ⟨rfl, hO7⟩
  have hH2 := hO7.oc
  have HF := hid hO7
  refine hK.out _ _ hH2 (fun _ => ?_)
  clear hK K hHeld CK hO7
  have hHeld := hH2
  clear hH2
  try simp only [Act.put, lqA, lqB, lqC, lqD, lqE, lqF]
  refine wpAnyH_take (i := 13) (v := ?_) rfl (by kernel_rfl) (by kernel_rfl) (by kernel_rfl) (fun _ _ _ h => h) (Or.inl ⟨by kernel_rfl, ?hy13⟩) (by assumption) ?_
  case hy13 => (intro wI hSw; (try dsimp only at hSw); obtain ⟨t0, t1, t2, t3, t4, t5, t6, t7, t8, t9⟩ := hSw; go_simp; try with_reducible rfl)
  try simp only [Act.put, lqA, lqB, lqC, lqD, lqE, lqF]
  refine wpAnyH_take (i := 14) (v := ?_) rfl (by kernel_rfl) (by kernel_rfl) (by kernel_rfl) (fun _ _ _ h => h) (Or.inl ⟨by kernel_rfl, ?hy14⟩) (by assumption) ?_
  case hy14 => (intro wI hSw; (try dsimp only at hSw); obtain ⟨t0, t1, t2, t3, t4, t5, t6, t7, t8, t9⟩ := hSw; go_simp; try with_reducible rfl)
  try simp only [Act.put, lqA, lqB, lqC, lqD, lqE, lqF]
  refine wpAnyH_done (by kernel_rfl) ?_ _
  go_wp2
  go_ret
  exact ⟨rfl, _, HF.out.two (by omega)⟩
end
end Go.Proofs.YtkjempffidndeaaGreatDoor
