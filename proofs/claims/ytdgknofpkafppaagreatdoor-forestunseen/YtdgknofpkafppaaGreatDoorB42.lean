/- Lemmas that the proof leans on. -/
import Derived.Test.YtdgknofpkafppaaGreatDoorB40
import Derived.Deep.CutBlock
namespace Go.Proofs.YtdgknofpkafppaaGreatDoor
open Go Go.RowKit
open List renaming getElem_toArray → lqA, getElem_cons_zero → lqB, getElem_cons_succ → lqC, setIfInBounds_toArray → lqD, set_cons_zero → lqE, set_cons_succ → lqF
set_option maxRecDepth 100000
set_option maxHeartbeats 4000000
section
theorem Oc17.on {x y : World} {g : Nat} {o : Oq} (h : Oc17 x g o) (hb : Below x.heap.size x y) : Oc17 y g o :=
 ⟨by rw [hb.cell h.lt]; exact h.c0, by rw [hb.cell h.lt]; exact h.c1, by rw [hb.cell h.lt]; exact h.c2, by rw [hb.cell h.lt]; exact h.c3, by rw [hb.cell h.lt]; exact h.c4, by rw [hb.cell h.lt]; exact h.c5, by rw [hb.cell h.lt]; exact h.c6, by rw [hb.cell h.lt]; exact h.c7, by rw [hb.cell h.lt]; exact h.c8, Nat.lt_of_lt_of_le h.lt hb.size⟩
theorem Oc17.kp {x y : World} {g : Nat} {o : Oq} {X : List Nat} (h : Oc17 x g o) (hk : Kp X x y) (hX : g ∉ X) : Oc17 y g o :=
 ⟨hk.cell h.c0 hX, hk.cell h.c1 hX, hk.cell h.c2 hX, hk.cell h.c3 hX, hk.cell h.c4 hX, hk.cell h.c5 hX, hk.cell h.c6 hX, hk.cell h.c7 hX, hk.cell h.c8 hX, Nat.lt_of_lt_of_le h.lt hk.size⟩
theorem Oc17.put {x : World} {g gd : Nat} {o : Oq} (h : Oc17 x g o) (hne : gd ≠ g) (j : Nat) (v : Value) : Oc17 (x.setCell ⟨gd, j, none⟩ v) g o :=
 h.kp ((Kp.refl [gd] x).set ⟨gd, j, none⟩ (by simp) v) (by simp only [List.mem_singleton]; exact fun e => hne e.symm)
end
section
variable {es : List Addr} {w0 w w' : World} {p q mm : Nat} {F : Fo}
theorem stp_att (h : B2q es w0 p q mm F w) (hm : mm ≤ 890) (o : Oq) (ok : o.Ok w) (hv : plc o.k 19 = 5) :
  Calls Tryz.prog 7 #[.pointer (some ⟨p, 0, none⟩), .pointer (some ⟨q, 0, none⟩), .agg #[.int .i64 o.k, .int .i64 o.id, .int .i64 o.a, .int .i64 o.b, .int .i64 o.x, .int .i64 o.y, .int .i64 o.w, .int .i64 o.h, .slice o.l.a o.l.n o.l.c]] w (StR es w0 p q mm) := by
 have hm1 : mm ≤ 900 := by omega
 have hm2 : mm + 1 ≤ 900 := by omega
 have hO := h.bo #[.int .i64 o.k, .int .i64 o.id, .int .i64 o.a, .int .i64 o.b, .int .i64 o.x, .int .i64 o.y, .int .i64 o.w, .int .i64 o.h, .slice o.l.a o.l.n o.l.c]
 have okl := ok.l.on (bel_new w (.cells #[.int .i64 o.k, .int .i64 o.id, .int .i64 o.a, .int .i64 o.b, .int .i64 o.x, .int .i64 o.y, .int .i64 o.w, .int .i64 o.h, .slice o.l.a o.l.n o.l.c] 33))
 have HP := hid (place_any o.k 19 ok.k (by omega) (by omega))
 rw [hv] at HP
 obtain ⟨Y, hY, hYg, hW⟩ := hO.dat
 obtain ⟨r, hc, hr⟩ := hY.s o.id
 have HC := hid hc
 have HW := hid hW
 have HOKL := hid okl
 clear h hc hv hW okl
 go_enter Tryz.func7, Tryz.ntmps7
 go_wp2_with fail
 refine HC.out.mono ?_
 rintro e W ⟨rfl, hW1⟩
 obtain rfl : W = _ := hW1
 clear HC
 generalize w.alloc (.cells #[.int .i64 o.k, .int .i64 o.id, .int .i64 o.a, .int .i64 o.b, .int .i64 o.x, .int .i64 o.y, .int .i64 o.w, .int .i64 o.h, .slice o.l.a o.l.n o.l.c] 33) = W at *
 generalize w.heap.size = g at *
 rcases hr with ⟨rfl, hno⟩ | ⟨gd, P, s, rfl, hys, hD⟩
 ·have hno' := hasE_no hno
  have hup : upd F o.id (attS o.a) = F := upd_no hno
  have oc := hO.oc
  have c0 := oc.c0
  have l0 := oc.lt
  go_wp2_with fail
  refine (HP.out _).mono ?_
  rintro e W1 ⟨rfl, hW2⟩
  obtain rfl : W1 = W := hW2
  clear HP c0 l0 oc
  obtain ⟨t0, t1, t2, t3, t4, t5, t6, t7, t8, t9⟩ := hO.oc
  have CA := hid (hO.left (pq_att hm1 o.id o.a ok.id ok.a))
  rw [hno', hup] at CA
  clear hO HW hY
  go_wp2_with fail
  refine CA.out.mono ?_
  rintro e W2 ⟨rfl, hO2⟩
  have CK := hid (hO2.kind 5 (by decide))
  clear hO2 CA
  go_wp2_with fail
  refine CK.out.mono ?_
  rintro e W3 ⟨rfl, hO3⟩
  have HF := hid hO3
  clear hO3 CK
  go_wp2
  go_ret
  exact ⟨rfl, _, HF.out.two (by omega)⟩
 ·have hgg : gd ≠ g := hYg gd hD.mem
  have oc := hO.oc
  have c0 := oc.c0
  have l0 := oc.lt
  go_wp2_with fail
  refine (HP.out _).mono ?_
  rintro e W1 ⟨rfl, hW2⟩
  obtain rfl : W1 = W := hW2
  clear HP c0 l0 oc
  go_upto_region 17 with fail
  obtain ⟨b1, d1⟩ := hD.att
  obtain ⟨b2, d2⟩ := hD.buf
  replace d1 : W1.drew.cell? ⟨gd, P + 3, none⟩ = some (.bool b1) := d1
  replace d2 : W1.drew.cell? ⟨gd, P + 3 + 1, none⟩ = some (.int .i64 b2) := d2
  have hfz : ∀ j, W1.drew.frozen? ⟨gd, j, none⟩ = false := hD.fz
  have hlt : gd < W1.drew.heap.size := hD.lt
  have HN := hid (HW.out _ _ (hD.watt W1.drew o.a (Below.refl _ _).drew ok.a))
  have hoc := hO.oc
  clear hO hY hD
  refine wp_region_held_drew (S := fun x => Oc17 x g o) (by kernel_rfl) ?hh (fun hHeld => ?_)
  case hh => exact (hoc.on (Below.refl _ _).drew)
  generalize W1.drew = V0 at hHeld HN d1 d2 hfz hlt ⊢
  try dsimp only at hHeld
  refine wpAnyH_take (i := 0) (v := ?_) rfl (by kernel_rfl) (by kernel_rfl) (by kernel_rfl) (fun _ _ _ h => h) (Or.inl ⟨by kernel_rfl, ?hy0⟩) (by assumption) ?_
  case hy0 => (intro wI hSw; (try dsimp only at hSw); obtain ⟨t0, t1, t2, t3, t4, t5, t6, t7, t8, t9⟩ := hSw; go_simp; try with_reducible rfl)
  try simp only [Act.put, lqA, lqB, lqD, lqE, lqF]
  refine wpAnyH_take (i := 1) (v := ?_) rfl (by kernel_rfl) (by kernel_rfl) (by kernel_rfl) (fun _ _ _ h => h) (Or.inl ⟨by kernel_rfl, ?hy1⟩) (by assumption) ?_
  case hy1 => (intro wI hSw; (try dsimp only at hSw); obtain ⟨t0, t1, t2, t3, t4, t5, t6, t7, t8, t9⟩ := hSw; go_simp; try with_reducible rfl)
  try simp only [Act.put, lqA, lqB, lqC, lqD, lqE, lqF]
  refine wpAnyH_take (i := 2) (v := ?_) rfl (by kernel_rfl) (by kernel_rfl) (by kernel_rfl) (fun _ _ _ h => h) (Or.inl ⟨by kernel_rfl, ?hy2⟩) (by assumption) ?_
  case hy2 => (intro wI hSw; (try dsimp only at hSw); obtain ⟨t0, t1, t2, t3, t4, t5, t6, t7, t8, t9⟩ := hSw; go_simp; try with_reducible rfl)
  try simp only [Act.put, lqA, lqB, lqC, lqD, lqE, lqF]
  refine wpAnyH_take (i := 3) (v := ?_) rfl (by kernel_rfl) (by kernel_rfl) (by kernel_rfl) (fun _ _ _ h => h) (Or.inl ⟨by kernel_rfl, ?hy3⟩) (by assumption) ?_
  case hy3 => (intro wI hSw; (try dsimp only at hSw); obtain ⟨t0, t1, t2, t3, t4, t5, t6, t7, t8, t9⟩ := hSw; go_simp; try with_reducible rfl)
  try simp only [Act.put, lqA, lqB, lqC, lqD, lqE, lqF]
  refine wpAnyH_take (i := 4) (v := ?_) rfl (by kernel_rfl) (by kernel_rfl) (by kernel_rfl) (fun _ _ _ h => h) (Or.inl ⟨by kernel_rfl, ?hy4⟩) (by assumption) ?_
  case hy4 => (intro wI hSw; (try dsimp only at hSw); obtain ⟨t0, t1, t2, t3, t4, t5, t6, t7, t8, t9⟩ := hSw; go_simp; try with_reducible rfl)
  try simp only [Act.put, lqA, lqB, lqC, lqD, lqE, lqF]
  refine wpAnyH_take (i := 5) (v := ?_) rfl (by kernel_rfl) (by kernel_rfl) (by kernel_rfl) (fun _ _ _ h => h) (Or.inl ⟨by kernel_rfl, ?hy5⟩) (by assumption) ?_
  case hy5 => (intro wI hSw; (try dsimp only at hSw); obtain ⟨t0, t1, t2, t3, t4, t5, t6, t7, t8, t9⟩ := hSw; go_simp; try with_reducible rfl)
  try simp only [Act.put, lqA, lqB, lqC, lqD, lqE, lqF]
  refine wpAnyH_take (i := 6) (v := ?_) rfl (by kernel_rfl) (by kernel_rfl) (by kernel_rfl) (fun _ _ _ h => h) (Or.inl ⟨by kernel_rfl, ?hy6⟩) (by assumption) ?_
  case hy6 => (intro wI hSw; (try dsimp only at hSw); obtain ⟨t0, t1, t2, t3, t4, t5, t6, t7, t8, t9⟩ := hSw; go_simp; try with_reducible rfl)
  try simp only [Act.put, lqA, lqB, lqC, lqD, lqE, lqF]
  refine wpAnyH_ready (rs := [7]) (by kernel_rfl) (by simp) ?_
  refine AllReadyH.cons rfl (fun K hK => ?_) AllReadyH.nil
  go_simp
  refine hK.out _ _ (hHeld.put hgg _ _) (fun _ => ?_)
  clear hK K
  try simp only [Act.put, lqA, lqB, lqC, lqD, lqE, lqF]
  refine wpAnyH_take (i := 8) (v := ?_) rfl (by kernel_rfl) (by kernel_rfl) (by kernel_rfl) (fun _ _ _ h => h) (Or.inl ⟨by kernel_rfl, ?hy8⟩) (by assumption) ?_
  case hy8 => (intro wI hSw; (try dsimp only at hSw); obtain ⟨t0, t1, t2, t3, t4, t5, t6, t7, t8, t9⟩ := hSw; go_simp; try with_reducible rfl)
  try simp only [Act.put, lqA, lqB, lqC, lqD, lqE, lqF]
  refine wpAnyH_take (i := 9) (v := ?_) rfl (by kernel_rfl) (by kernel_rfl) (by kernel_rfl) (fun _ _ _ h => h) (Or.inl ⟨by kernel_rfl, ?hy9⟩) (by assumption) ?_
  case hy9 => (intro wI hSw; (try dsimp only at hSw); obtain ⟨t0, t1, t2, t3, t4, t5, t6, t7, t8, t9⟩ := hSw; go_simp; try with_reducible rfl)
  try simp only [Act.put, lqA, lqB, lqC, lqD, lqE, lqF]
  refine wpAnyH_take (i := 10) (v := ?_) rfl (by kernel_rfl) (by kernel_rfl) (by kernel_rfl) (fun _ _ _ h => h) (Or.inl ⟨by kernel_rfl, ?hy10⟩) (by assumption) ?_
  case hy10 => (intro wI hSw; (try dsimp only at hSw); obtain ⟨t0, t1, t2, t3, t4, t5, t6, t7, t8, t9⟩ := hSw; go_simp; try with_reducible rfl)
  try simp only [Act.put, lqA, lqB, lqC, lqD, lqE, lqF]
  refine wpAnyH_ready (rs := [11]) (by kernel_rfl) (by simp) ?_
  refine AllReadyH.cons rfl (fun K hK => ?_) AllReadyH.nil
  go_simp
  refine hK.out _ _ ((hHeld.put hgg _ _).put hgg _ _) (fun _ => ?_)
  clear hK K
  try simp only [Act.put, lqA, lqB, lqC, lqD, lqE, lqF]
  refine wpAnyH_done (by kernel_rfl) ?_ _
  have hO2 := HN.out
  generalize (V0.setCell ⟨gd, P + 3, none⟩ (.bool true)).setCell ⟨gd, P + 3 + 1, none⟩ (.int .i64 o.a) = V9 at *
  clear hHeld HN d1 d2 hfz hlt
  have hys' := hasE_yes hys
  obtain ⟨t0, t1, t2, t3, t4, t5, t6, t7, t8, t9⟩ := hO2.oc
  have CA := hid (hO2.left (pq_att hm2 o.id o.a ok.id ok.a))
  rw [hys'] at CA
  clear hO2
  go_wp2_with fail
  refine CA.out.mono ?_
  rintro e Y2 ⟨rfl, hO3⟩
  have CK := hid (hO3.kind 0 (by decide))
  rw [show erv es 0 = .nilIface from rfl] at CK
  rw [show erv es 0 = .nilIface from rfl]
  clear hO3 CA
  go_wp2_with fail
  refine CK.out.mono ?_
  rintro e Y3 ⟨rfl, hO4⟩
  have HF := hid hO4
  clear hO4 CK
  go_wp2
  go_ret
  exact ⟨rfl, _, HF.out.two (by omega)⟩
end
end Go.Proofs.YtdgknofpkafppaaGreatDoor
