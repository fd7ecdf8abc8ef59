/- Lemmas that the proof leans on. -/
import Derived.Test.YtkjempffidndeaaGreatDoorB39
namespace Go.Proofs.YtkjempffidndeaaGreatDoor
open Go Go.RowKit
open List renaming getElem_toArray → lqA, getElem_cons_zero → lqB, getElem_cons_succ → lqC, setIfInBounds_toArray → lqD, set_cons_zero → lqE, set_cons_succ → lqF
set_option maxRecDepth 100000
set_option maxHeartbeats 4000000
section
variable {es : List Addr} {w0 w w' : World} {p q mm : Nat} {F : Fo}
theorem lit4s (w : World) (o : Oq) : RdM 4 (w.alloc (.cells #[.int .i64 o.x, .int .i64 o.y, .int .i64 o.w, .int .i64 o.h] 54)) (some ⟨w.heap.size, 0, none⟩) 1 1 [[o.x, o.y, o.w, o.h]] :=
 ⟨rfl, Nat.le_refl _, by simp [maxLen], (fun h => by cases h), fun _ => ⟨w.heap.size, 0, rfl, by simp, fun j y hy i z hz => by
  match j, hy with
  | 0, hy =>
   cases hy
   match i, hz with
   | 0, hz => cases hz; simp
   | 1, hz => cases hz; simp
   | 2, hz => cases hz; simp
   | 3, hz => cases hz; simp
   | i + 4, hz => simp at hz
  | j + 1, hy => simp at hy⟩, by simp⟩
theorem lit1s (w : World) (o : Oq) : RdM 1 (w.alloc (.cells #[.int .i64 o.a] 3)) (some ⟨w.heap.size, 0, none⟩) 1 1 [[o.a]] :=
 ⟨rfl, Nat.le_refl _, by simp [maxLen], (fun h => by cases h), fun _ => ⟨w.heap.size, 0, rfl, by simp, fun j y hy i z hz => by
  match j, hy with
  | 0, hy =>
   cases hy
   match i, hz with
   | 0, hz => cases hz; simp
   | i + 1, hz => simp at hz
  | j + 1, hy => simp at hy⟩, by simp⟩
theorem stp_dmg (h : B2q es w0 p q mm F w) (hm : mm ≤ 890) (o : Oq) (ok : o.Ok w) (hv : plc o.k 19 = 6) :
  Calls Tryz.prog 18 #[.pointer (some ⟨p, 0, none⟩), .pointer (some ⟨q, 0, none⟩), .agg #[.int .i64 o.k, .int .i64 o.id, .int .i64 o.a, .int .i64 o.b, .int .i64 o.x, .int .i64 o.y, .int .i64 o.w, .int .i64 o.h, .slice o.l.a o.l.n o.l.c]] w (StR es w0 p q mm) := by
 have hm1 : mm ≤ 900 := by omega
 have hm2 : mm + 1 ≤ 900 := by omega
 have hO := h.bo #[.int .i64 o.k, .int .i64 o.id, .int .i64 o.a, .int .i64 o.b, .int .i64 o.x, .int .i64 o.y, .int .i64 o.w, .int .i64 o.h, .slice o.l.a o.l.n o.l.c]
 have okl := ok.l.on (bel_new w (.cells #[.int .i64 o.k, .int .i64 o.id, .int .i64 o.a, .int .i64 o.b, .int .i64 o.x, .int .i64 o.y, .int .i64 o.w, .int .i64 o.h, .slice o.l.a o.l.n o.l.c] 57))
 have HP := hid (place_any o.k 19 ok.k (by omega) (by omega))
 rw [hv] at HP
 obtain ⟨Y, hY, hYg, hW⟩ := hO.dat
 obtain ⟨r, hc, hr⟩ := hY.s o.id
 have HC := hid hc
 have HW := hid hW
 have HOKL := hid okl
 clear h hc hv hW okl
 go_enter Tryz.func18, Tryz.ntmps18
 go_wp2_with fail
 refine HC.out.mono ?_
 rintro e W ⟨rfl, hW1⟩
 obtain rfl : W = _ := hW1
 clear HC
 generalize w.alloc (.cells #[.int .i64 o.k, .int .i64 o.id, .int .i64 o.a, .int .i64 o.b, .int .i64 o.x, .int .i64 o.y, .int .i64 o.w, .int .i64 o.h, .slice o.l.a o.l.n o.l.c] 57) = W at *
 generalize w.heap.size = g at *
 rcases hr with ⟨rfl, hno⟩ | ⟨gd, P, s, rfl, hys, hD⟩
 ·have hno' := hasE_no hno
  have hup : upd F o.id (dmgS [o.x, o.y, o.w, o.h]) = F := upd_no hno
  have oc := hO.oc
  have c0 := oc.c0
  have l0 := oc.lt
  go_wp2_with fail
  refine (HP.out _).mono ?_
  rintro e W1 ⟨rfl, hW2⟩
  obtain rfl : W1 = W := hW2
  clear HP c0 l0 oc
  obtain ⟨t0, t1, t2, t3, t4, t5, t6, t7, t8, t9⟩ := hO.oc
  have CA := hid (hO.left (pq_dmg hm1 o.id ok.id o.x o.y o.w o.h))
  rw [hno', hup] at CA
  clear hO HW hY
  go_wp2_with fail
  refine CA.out.mono ?_
  rintro e W2 ⟨rfl, hO2⟩
  have CK := hid (hO2.kind 5 (by decide))
  clear hO2 CA
  go_wp2_with fail
  refine CK.out.mono ?_
  rintro e W3 ⟨rfl, hO3⟩
  have HF := hid hO3
  clear hO3 CK
  go_wp2
  go_ret
  exact ⟨rfl, _, HF.out.two (by omega)⟩
 ·have hgg : gd ≠ g := hYg gd hD.mem
  have oc := hO.oc
  have c0 := oc.c0
  have l0 := oc.lt
  go_wp2_with fail
  refine (HP.out _).mono ?_
  rintro e W1 ⟨rfl, hW2⟩
  obtain rfl : W1 = W := hW2
  clear HP c0 l0 oc
  go_upto_region 21 with fail
  obtain ⟨l, d1, hl, hll, hln⟩ := hD.dm
  replace hln := hln hm1
  have hlsz := hl.len
  have HCC : Hid (∀ u : World, RowKit.Below W1.heap.size W1 u → u.cell? ⟨gd, P + 3 + 2, none⟩ = some (.slice l.a l.n l.c) ∧ gd < u.heap.size ∧ (∀ j, u.frozen? ⟨gd, j, none⟩ = false) ∧ Oc17 u g o) := fun u hu => ⟨by rw [hu.cell hD.lt]; exact d1, Nat.lt_of_lt_of_le hD.lt hu.size, fun j => by simp only [World.frozen?, hu.block gd hD.lt]; exact hD.fz j, hO.oc.on hu⟩
  have HREC : Hid (∀ u : World, RowKit.Below W1.heap.size W1 u → Calls Tryz.prog 42 #[.slice l.a l.n l.c] u fun e w' => ∃ v, e = .returned v ∧ OwM 4 54 u w' v l.l) := fun u hu => lrects_any l.a l.n l.c l.l u (hl.on hu) (by omega)
  have HN : Hid (∀ (u : World) (s2 : Sl), RowKit.Below W1.heap.size W1 u → RdM 4 u s2.a s2.n s2.c s2.l → (∀ y, s2.a = some y → 0 < s2.n → W1.heap.size ≤ y.block) → s2.l = l.l ++ [[o.x, o.y, o.w, o.h]] → Bq es w0 p q (mm + 1) F (upd F o.id (dmgS [o.x, o.y, o.w, o.h])) g #[.int .i64 o.k, .int .i64 o.id, .int .i64 o.a, .int .i64 o.b, .int .i64 o.x, .int .i64 o.y, .int .i64 o.w, .int .i64 o.h, .slice o.l.a o.l.n o.l.c] (u.setCell ⟨gd, P + 3 + 2, none⟩ (.slice s2.a s2.n s2.c))) := fun u s2 h1 h2 h3 h4 => HW.out _ _ (hD.wdm u s2 [o.x, o.y, o.w, o.h] h1 h2 h3 (by rw [h4, hll]))
  have hsz := hl.size
  obtain ⟨i0, hi, hz0, hz1, hz2⟩ := infoMP infoM4
  have O1 : True := trivial
  have RL : True := trivial
  clear hO hY hD d1 hl hll HW hYg
  refine wp_region_gate_drew (g := 14) (S := RowKit.Below W1.heap.size W1) (by kernel_rfl) ?hh (fun hHeld => ?_)
  case hh => exact ((Below.refl _ _).drew)
  generalize W1.drew = V0 at hHeld ⊢
  try dsimp only at hHeld
  refine wpAnyG_take (i := 0) (v := ?_) rfl (by kernel_rfl) (by kernel_rfl) (by kernel_rfl) (by kernel_rfl) (fun _ _ _ h => h) (Or.inl ⟨by kernel_rfl, ?hy0⟩) (by assumption) ?_
  case hy0 => (intro wI hSw; (try dsimp only at hSw); obtain ⟨s1, s2, s3, ⟨t0, t1, t2, t3, t4, t5, t6, t7, t8, t9⟩⟩ := HCC.out _ hSw; go_simp; try with_reducible rfl)
  try simp only [Act.put, lqA, lqB, lqD, lqE, lqF]
  refine wpAnyG_take (i := 1) (v := ?_) rfl (by kernel_rfl) (by kernel_rfl) (by kernel_rfl) (by kernel_rfl) (fun _ _ _ h => h) (Or.inl ⟨by kernel_rfl, ?hy1⟩) (by assumption) ?_
  case hy1 => (intro wI hSw; (try dsimp only at hSw); obtain ⟨s1, s2, s3, ⟨t0, t1, t2, t3, t4, t5, t6, t7, t8, t9⟩⟩ := HCC.out _ hSw; go_simp; try with_reducible rfl)
  try simp only [Act.put, lqA, lqB, lqC, lqD, lqE, lqF]
  refine wpAnyG_take (i := 2) (v := ?_) rfl (by kernel_rfl) (by kernel_rfl) (by kernel_rfl) (by kernel_rfl) (fun _ _ _ h => h) (Or.inl ⟨by kernel_rfl, ?hy2⟩) (by assumption) ?_
  case hy2 => (intro wI hSw; (try dsimp only at hSw); obtain ⟨s1, s2, s3, ⟨t0, t1, t2, t3, t4, t5, t6, t7, t8, t9⟩⟩ := HCC.out _ hSw; go_simp; try with_reducible rfl)
  try simp only [Act.put, lqA, lqB, lqC, lqD, lqE, lqF]
  refine wpAnyG_take (i := 3) (v := ?_) rfl (by kernel_rfl) (by kernel_rfl) (by kernel_rfl) (by kernel_rfl) (fun _ _ _ h => h) (Or.inl ⟨by kernel_rfl, ?hy3⟩) (by assumption) ?_
  case hy3 => (intro wI hSw; (try dsimp only at hSw); obtain ⟨s1, s2, s3, ⟨t0, t1, t2, t3, t4, t5, t6, t7, t8, t9⟩⟩ := HCC.out _ hSw; go_simp; try with_reducible rfl)
  try simp only [Act.put, lqA, lqB, lqC, lqD, lqE, lqF]
  refine wpAnyG_take (i := 4) (v := ?_) rfl (by kernel_rfl) (by kernel_rfl) (by kernel_rfl) (by kernel_rfl) (fun _ _ _ h => h) (Or.inl ⟨by kernel_rfl, ?hy4⟩) (by assumption) ?_
  case hy4 => (intro wI hSw; (try dsimp only at hSw); obtain ⟨s1, s2, s3, ⟨t0, t1, t2, t3, t4, t5, t6, t7, t8, t9⟩⟩ := HCC.out _ hSw; go_simp; try with_reducible rfl)
  try simp only [Act.put, lqA, lqB, lqC, lqD, lqE, lqF]
  refine wpAnyG_take (i := 5) (v := ?_) rfl (by kernel_rfl) (by kernel_rfl) (by kernel_rfl) (by kernel_rfl) (fun _ _ _ h => h) (Or.inl ⟨by kernel_rfl, ?hy5⟩) (by assumption) ?_
  case hy5 => (intro wI hSw; (try dsimp only at hSw); obtain ⟨s1, s2, s3, ⟨t0, t1, t2, t3, t4, t5, t6, t7, t8, t9⟩⟩ := HCC.out _ hSw; go_simp; try with_reducible rfl)
  try simp only [Act.put, lqA, lqB, lqC, lqD, lqE, lqF]
  refine wpAnyG_take (i := 7) (v := ?_) rfl (by kernel_rfl) (by kernel_rfl) (by kernel_rfl) (by kernel_rfl) (fun _ _ _ h => h) (Or.inl ⟨by kernel_rfl, ?hy7⟩) (by assumption) ?_
  case hy7 => (intro wI hSw; (try dsimp only at hSw); obtain ⟨s1, s2, s3, ⟨t0, t1, t2, t3, t4, t5, t6, t7, t8, t9⟩⟩ := HCC.out _ hSw; go_simp; try with_reducible rfl)
  try simp only [Act.put, lqA, lqB, lqC, lqD, lqE, lqF]
  refine wpAnyG_take (i := 8) (v := ?_) rfl (by kernel_rfl) (by kernel_rfl) (by kernel_rfl) (by kernel_rfl) (fun _ _ _ h => h) (Or.inl ⟨by kernel_rfl, ?hy8⟩) (by assumption) ?_
  case hy8 => (intro wI hSw; (try dsimp only at hSw); obtain ⟨s1, s2, s3, ⟨t0, t1, t2, t3, t4, t5, t6, t7, t8, t9⟩⟩ := HCC.out _ hSw; go_simp; try with_reducible rfl)
  try simp only [Act.put, lqA, lqB, lqC, lqD, lqE, lqF]
  refine wpAnyG_ready (rs := [6, 9]) (by kernel_rfl) (by simp) ?_
  refine AllReadyG.cons rfl (fun K hK => ?_) ?_
  ·go_simp
   go_wp2_with fail
   refine (HREC.out V0 hHeld).mono ?_
   rintro e W6 ⟨v1, rfl, hv1⟩
   have hb1 := hv1.bel
   have hH2 := Below.on hHeld hb1
   try replace RL := RL.on hb1
   have o1' : World.ownsRow W6 W1.heap.size 54 4 v1 l.n (mcs l.l) := by rw [← hlsz]; exact ownsRow_low hv1.own hHeld.size
   refine hK.out _ _ hH2 (fun _ => ?_)
   clear hK K hHeld hb1 hv1 O1
   have hHeld := hH2
   have O1 := o1'
   clear hH2 o1'
   try simp only [Act.put, lqA, lqB, lqC, lqD, lqE, lqF]
   refine wpAnyG_ready (rs := [9]) (by kernel_rfl) (by simp) ?_
   refine AllReadyG.cons rfl (fun K hK => ?_) AllReadyG.nil
   have hb1 := bel_new W6 (.cells #[.int .i64 o.x, .int .i64 o.y, .int .i64 o.w, .int .i64 o.h] 54)
   have hH2 := Below.on hHeld hb1
   have rl := lit4s W6 o
   try replace O1 := ownsRow_below O1 hb1
   go_simp
   refine hK.out _ _ hH2 (fun _ => ?_)
   clear hK K hHeld hb1 RL
   generalize W6.alloc (.cells #[.int .i64 o.x, .int .i64 o.y, .int .i64 o.w, .int .i64 o.h] 54) = W9 at *
   generalize W6.heap.size = gl at *
   have hHeld := hH2
   have RL := rl
   clear hH2 rl
   try simp only [Act.put, lqA, lqB, lqC, lqD, lqE, lqF]
   refine wpAnyG_ready (rs := [10]) (by kernel_rfl) (by simp) ?_
   refine AllReadyG.cons rfl (fun K hK => ?_) AllReadyG.nil
   refine step_appG (by kernel_rfl) (.tmp 109) (.tmp 112) 55 55 rfl W1.heap.size 54 i0 (.agg #[.int .i64 0, .int .i64 0, .int .i64 0, .int .i64 0]) 4 32 Tryz.underlying55 hi hz0 hz1 hz2 rfl _ _ _ (by simp [Act.eval]) O1 _ _ _ (by simp [Act.eval]) (RL.src (P := Tryz.prog) (t := 55) (e := 54) Tryz.underlying55) (by simp only [maxLen]; omega) (fitsM (by omega) (by decide)) hHeld.size ?_
   intro v2 W10 o2 g2
   have hH2 := hHeld.grown g2 hHeld.size (fun k hk => (O1.lt k hk).1)
   have o2' : World.ownsRow W10 W1.heap.size 54 4 v2 (l.n + 1) (mcs (l.l ++ [[o.x, o.y, o.w, o.h]])) := by rw [mcs_append]; exact o2
   obtain ⟨s2, rfl, hsn, hsl, hsr, hso⟩ := own_sl o2' (by rw [List.length_append, hlsz]; rfl) (fun y hy => by rcases List.mem_append.1 hy with hy | hy; exact hsz y hy; obtain rfl := List.mem_singleton.1 hy; rfl)
   have hNN := HN.out _ s2 hH2 hsr (fun y hy _ => own_fy hso y hy) hsl
   have HNN := hid hNN
   have hcc := HCC.out _ hH2
   rw [Sl.v]
   refine hK.out _ _ hH2 (fun _ => ?_)
   clear hK K hHeld g2 o2 O1 RL o2' hsn hsl hsr hso hNN
   have hHeld := hH2
   clear hH2
   try simp only [Act.put, lqA, lqB, lqC, lqD, lqE, lqF]
   refine wpAnyG_take (i := 11) (v := ?_) rfl (by kernel_rfl) (by kernel_rfl) (by kernel_rfl) (by kernel_rfl) (fun _ _ _ h => h) (Or.inl ⟨by kernel_rfl, ?hy11⟩) (by assumption) ?_
   case hy11 => (intro wI hSw; (try dsimp only at hSw); obtain ⟨s1, s2, s3, ⟨t0, t1, t2, t3, t4, t5, t6, t7, t8, t9⟩⟩ := HCC.out _ hSw; go_simp; try with_reducible rfl)
   try simp only [Act.put, lqA, lqB, lqC, lqD, lqE, lqF]
   refine wpAnyG_take (i := 12) (v := ?_) rfl (by kernel_rfl) (by kernel_rfl) (by kernel_rfl) (by kernel_rfl) (fun _ _ _ h => h) (Or.inl ⟨by kernel_rfl, ?hy12⟩) (by assumption) ?_
   case hy12 => (intro wI hSw; (try dsimp only at hSw); obtain ⟨s1, s2, s3, ⟨t0, t1, t2, t3, t4, t5, t6, t7, t8, t9⟩⟩ := HCC.out _ hSw; go_simp; try with_reducible rfl)
   try simp only [Act.put, lqA, lqB, lqC, lqD, lqE, lqF]
   refine wpAnyG_take (i := 13) (v := ?_) rfl (by kernel_rfl) (by kernel_rfl) (by kernel_rfl) (by kernel_rfl) (fun _ _ _ h => h) (Or.inl ⟨by kernel_rfl, ?hy13⟩) (by assumption) ?_
   case hy13 => (intro wI hSw; (try dsimp only at hSw); obtain ⟨s1, s2, s3, ⟨t0, t1, t2, t3, t4, t5, t6, t7, t8, t9⟩⟩ := HCC.out _ hSw; go_simp; try with_reducible rfl)
   try simp only [Act.put, lqA, lqB, lqC, lqD, lqE, lqF]
   have hG := hHeld
   clear hHeld
   have hHeld : True := trivial
   refine wpAnyG_gateOp rfl (by kernel_rfl) (fun K hK => ?_)
   obtain ⟨k1, k2, k3, k4⟩ := hcc
   go_simp
   refine hK.out _ _ trivial (fun _ => ?_)
   clear hK K k1 k2 k3 k4
   try simp only [Act.put, lqA, lqB, lqC, lqD, lqE, lqF]
   refine wpAnyH_done (by kernel_rfl) ?_ _
   have hO2 := HNN.out
   generalize World.setCell _ _ _ = V9 at *
   clear hG hHeld HNN HN HREC HCC
   have hys' := hasE_yes hys
   obtain ⟨t0, t1, t2, t3, t4, t5, t6, t7, t8, t9⟩ := hO2.oc
   have CA := hid (hO2.left (pq_dmg hm2 o.id ok.id o.x o.y o.w o.h))
   rw [hys'] at CA
   clear hO2
   go_wp2_with fail
   refine CA.out.mono ?_
   rintro e Y2 ⟨rfl, hO3⟩
   have CK := hid (hO3.kind 0 (by decide))
   rw [show erv es 0 = .nilIface from rfl] at CK
   rw [show erv es 0 = .nilIface from rfl]
   clear hO3 CA
   go_wp2_with fail
   refine CK.out.mono ?_
   rintro e Y3 ⟨rfl, hO4⟩
   have HF := hid hO4
   clear hO4 CK
   go_wp2
   go_ret
   exact ⟨rfl, _, HF.out.two (by omega)⟩
  refine AllReadyG.cons rfl (fun K hK => ?_) ?_
  ·have hb1 := bel_new V0 (.cells #[.int .i64 o.x, .int .i64 o.y, .int .i64 o.w, .int .i64 o.h] 54)
   have hH2 := Below.on hHeld hb1
   have rl := lit4s V0 o
   try replace O1 := ownsRow_below O1 hb1
   go_simp
   refine hK.out _ _ hH2 (fun _ => ?_)
   clear hK K hHeld hb1 RL
   generalize V0.alloc (.cells #[.int .i64 o.x, .int .i64 o.y, .int .i64 o.w, .int .i64 o.h] 54) = W9 at *
   generalize V0.heap.size = gl at *
   have hHeld := hH2
   have RL := rl
   clear hH2 rl
   try simp only [Act.put, lqA, lqB, lqC, lqD, lqE, lqF]
   refine wpAnyG_ready (rs := [6]) (by kernel_rfl) (by simp) ?_
   refine AllReadyG.cons rfl (fun K hK => ?_) AllReadyG.nil
   go_simp
   go_wp2_with fail
   refine (HREC.out W9 hHeld).mono ?_
   rintro e W6 ⟨v1, rfl, hv1⟩
   have hb1 := hv1.bel
   have hH2 := Below.on hHeld hb1
   try replace RL := RL.on hb1
   have o1' : World.ownsRow W6 W1.heap.size 54 4 v1 l.n (mcs l.l) := by rw [← hlsz]; exact ownsRow_low hv1.own hHeld.size
   refine hK.out _ _ hH2 (fun _ => ?_)
   clear hK K hHeld hb1 hv1 O1
   have hHeld := hH2
   have O1 := o1'
   clear hH2 o1'
   try simp only [Act.put, lqA, lqB, lqC, lqD, lqE, lqF]
   refine wpAnyG_ready (rs := [10]) (by kernel_rfl) (by simp) ?_
   refine AllReadyG.cons rfl (fun K hK => ?_) AllReadyG.nil
   refine step_appG (by kernel_rfl) (.tmp 109) (.tmp 112) 55 55 rfl W1.heap.size 54 i0 (.agg #[.int .i64 0, .int .i64 0, .int .i64 0, .int .i64 0]) 4 32 Tryz.underlying55 hi hz0 hz1 hz2 rfl _ _ _ (by simp [Act.eval]) O1 _ _ _ (by simp [Act.eval]) (RL.src (P := Tryz.prog) (t := 55) (e := 54) Tryz.underlying55) (by simp only [maxLen]; omega) (fitsM (by omega) (by decide)) hHeld.size ?_
   intro v2 W10 o2 g2
   have hH2 := hHeld.grown g2 hHeld.size (fun k hk => (O1.lt k hk).1)
   have o2' : World.ownsRow W10 W1.heap.size 54 4 v2 (l.n + 1) (mcs (l.l ++ [[o.x, o.y, o.w, o.h]])) := by rw [mcs_append]; exact o2
   obtain ⟨s2, rfl, hsn, hsl, hsr, hso⟩ := own_sl o2' (by rw [List.length_append, hlsz]; rfl) (fun y hy => by rcases List.mem_append.1 hy with hy | hy; exact hsz y hy; obtain rfl := List.mem_singleton.1 hy; rfl)
   have hNN := HN.out _ s2 hH2 hsr (fun y hy _ => own_fy hso y hy) hsl
   have HNN := hid hNN
   have hcc := HCC.out _ hH2
   rw [Sl.v]
   refine hK.out _ _ hH2 (fun _ => ?_)
   clear hK K hHeld g2 o2 O1 RL o2' hsn hsl hsr hso hNN
   have hHeld := hH2
   clear hH2
   try simp only [Act.put, lqA, lqB, lqC, lqD, lqE, lqF]
   refine wpAnyG_take (i := 11) (v := ?_) rfl (by kernel_rfl) (by kernel_rfl) (by kernel_rfl) (by kernel_rfl) (fun _ _ _ h => h) (Or.inl ⟨by kernel_rfl, ?hy11⟩) (by assumption) ?_
   case hy11 => (intro wI hSw; (try dsimp only at hSw); obtain ⟨s1, s2, s3, ⟨t0, t1, t2, t3, t4, t5, t6, t7, t8, t9⟩⟩ := HCC.out _ hSw; go_simp; try with_reducible rfl)
   try simp only [Act.put, lqA, lqB, lqC, lqD, lqE, lqF]
   refine wpAnyG_take (i := 12) (v := ?_) rfl (by kernel_rfl) (by kernel_rfl) (by kernel_rfl) (by kernel_rfl) (fun _ _ _ h => h) (Or.inl ⟨by kernel_rfl, ?hy12⟩) (by assumption) ?_
   case hy12 => (intro wI hSw; (try dsimp only at hSw); obtain ⟨s1, s2, s3, ⟨t0, t1, t2, t3, t4, t5, t6, t7, t8, t9⟩⟩ := HCC.out _ hSw; go_simp; try with_reducible rfl)
   try simp only [Act.put, lqA, lqB, lqC, lqD, lqE, lqF]
   refine wpAnyG_take (i := 13) (v := ?_) rfl (by kernel_rfl) (by kernel_rfl) (by kernel_rfl) (by kernel_rfl) (fun _ _ _ h => h) (Or.inl ⟨by kernel_rfl, ?hy13⟩) (by assumption) ?_
   case hy13 => (intro wI hSw; (try dsimp only at hSw); obtain ⟨s1, s2, s3, ⟨t0, t1, t2, t3, t4, t5, t6, t7, t8, t9⟩⟩ := HCC.out _ hSw; go_simp; try with_reducible rfl)
   try simp only [Act.put, lqA, lqB, lqC, lqD, lqE, lqF]
   have hG := hHeld
   clear hHeld
   have hHeld : True := trivial
   refine wpAnyG_gateOp rfl (by kernel_rfl) (fun K hK => ?_)
   obtain ⟨k1, k2, k3, k4⟩ := hcc
   go_simp
   refine hK.out _ _ trivial (fun _ => ?_)
   clear hK K k1 k2 k3 k4
   try simp only [Act.put, lqA, lqB, lqC, lqD, lqE, lqF]
   refine wpAnyH_done (by kernel_rfl) ?_ _
   have hO2 := HNN.out
   generalize World.setCell _ _ _ = V9 at *
   clear hG hHeld HNN HN HREC HCC
   have hys' := hasE_yes hys
   obtain ⟨t0, t1, t2, t3, t4, t5, t6, t7, t8, t9⟩ := hO2.oc
   have CA := hid (hO2.left (pq_dmg hm2 o.id ok.id o.x o.y o.w o.h))
   rw [hys'] at CA
   clear hO2
   go_wp2_with fail
   refine CA.out.mono ?_
   rintro e Y2 ⟨rfl, hO3⟩
   have CK := hid (hO3.kind 0 (by decide))
   rw [show erv es 0 = .nilIface from rfl] at CK
   rw [show erv es 0 = .nilIface from rfl]
   clear hO3 CA
   go_wp2_with fail
   refine CK.out.mono ?_
   rintro e Y3 ⟨rfl, hO4⟩
   have HF := hid hO4
   clear hO4 CK
   go_wp2
   go_ret
   exact ⟨rfl, _, HF.out.two (by omega)⟩
  exact AllReadyG.nil
theorem stp_frm (h : B2q es w0 p q mm F w) (hm : mm ≤ 890) (o : Oq) (ok : o.Ok w) (hv : plc o.k 19 = 7) :
  Calls Tryz.prog 18 #[.pointer (some ⟨p, 0, none⟩), .pointer (some ⟨q, 0, none⟩), .agg #[.int .i64 o.k, .int .i64 o.id, .int .i64 o.a, .int .i64 o.b, .int .i64 o.x, .int .i64 o.y, .int .i64 o.w, .int .i64 o.h, .slice o.l.a o.l.n o.l.c]] w (StR es w0 p q mm) := by
 have hm1 : mm ≤ 900 := by omega
 have hm2 : mm + 1 ≤ 900 := by omega
 have hO := h.bo #[.int .i64 o.k, .int .i64 o.id, .int .i64 o.a, .int .i64 o.b, .int .i64 o.x, .int .i64 o.y, .int .i64 o.w, .int .i64 o.h, .slice o.l.a o.l.n o.l.c]
 have okl := ok.l.on (bel_new w (.cells #[.int .i64 o.k, .int .i64 o.id, .int .i64 o.a, .int .i64 o.b, .int .i64 o.x, .int .i64 o.y, .int .i64 o.w, .int .i64 o.h, .slice o.l.a o.l.n o.l.c] 57))
 have HP := hid (place_any o.k 19 ok.k (by omega) (by omega))
 rw [hv] at HP
 obtain ⟨Y, hY, hYg, hW⟩ := hO.dat
 obtain ⟨r, hc, hr⟩ := hY.s o.id
 have HC := hid hc
 have HW := hid hW
 have HOKL := hid okl
 clear h hc hv hW okl
 go_enter Tryz.func18, Tryz.ntmps18
 go_wp2_with fail
 refine HC.out.mono ?_
 rintro e W ⟨rfl, hW1⟩
 obtain rfl : W = _ := hW1
 clear HC
 generalize w.alloc (.cells #[.int .i64 o.k, .int .i64 o.id, .int .i64 o.a, .int .i64 o.b, .int .i64 o.x, .int .i64 o.y, .int .i64 o.w, .int .i64 o.h, .slice o.l.a o.l.n o.l.c] 57) = W at *
 generalize w.heap.size = g at *
 rcases hr with ⟨rfl, hno⟩ | ⟨gd, P, s, rfl, hys, hD⟩
 ·have hno' := hasE_no hno
  have hup : upd F o.id (frmS o.a) = F := upd_no hno
  have oc := hO.oc
  have c0 := oc.c0
  have l0 := oc.lt
  go_wp2_with fail
  refine (HP.out _).mono ?_
  rintro e W1 ⟨rfl, hW2⟩
  obtain rfl : W1 = W := hW2
  clear HP c0 l0 oc
  obtain ⟨t0, t1, t2, t3, t4, t5, t6, t7, t8, t9⟩ := hO.oc
  have CA := hid (hO.left (pq_frm hm1 o.id o.a ok.id))
  rw [hno', hup] at CA
  clear hO HW hY
  go_wp2_with fail
  refine CA.out.mono ?_
  rintro e W2 ⟨rfl, hO2⟩
  have CK := hid (hO2.kind 5 (by decide))
  clear hO2 CA
  go_wp2_with fail
  refine CK.out.mono ?_
  rintro e W3 ⟨rfl, hO3⟩
  have HF := hid hO3
  clear hO3 CK
  go_wp2
  go_ret
  exact ⟨rfl, _, HF.out.two (by omega)⟩
 ·have hgg : gd ≠ g := hYg gd hD.mem
  have oc := hO.oc
  have c0 := oc.c0
  have l0 := oc.lt
  go_wp2_with fail
  refine (HP.out _).mono ?_
  rintro e W1 ⟨rfl, hW2⟩
  obtain rfl : W1 = W := hW2
  clear HP c0 l0 oc
  go_upto_region 25 with fail
  obtain ⟨l, d1, hl, hll, hln⟩ := hD.fr
  replace hln := hln hm1
  have hlsz := hl.len
  have HCC : Hid (∀ u : World, RowKit.Below W1.heap.size W1 u → u.cell? ⟨gd, P + 3 + 3, none⟩ = some (.slice l.a l.n l.c) ∧ gd < u.heap.size ∧ (∀ j, u.frozen? ⟨gd, j, none⟩ = false) ∧ Oc17 u g o) := fun u hu => ⟨by rw [hu.cell hD.lt]; exact d1, Nat.lt_of_lt_of_le hD.lt hu.size, fun j => by simp only [World.frozen?, hu.block gd hD.lt]; exact hD.fz j, hO.oc.on hu⟩
  have HREC : Hid (∀ u : World, RowKit.Below W1.heap.size W1 u → Calls Tryz.prog 44 #[.slice l.a l.n l.c] u fun e w' => ∃ v, e = .returned v ∧ OwM 1 3 u w' v l.l) := fun u hu => lints_any l.a l.n l.c l.l u (hl.on hu) (by omega)
  have HN : Hid (∀ (u : World) (s2 : Sl), RowKit.Below W1.heap.size W1 u → RdM 1 u s2.a s2.n s2.c s2.l → (∀ y, s2.a = some y → 0 < s2.n → W1.heap.size ≤ y.block) → s2.l = l.l ++ [[o.a]] → Bq es w0 p q (mm + 1) F (upd F o.id (frmS o.a)) g #[.int .i64 o.k, .int .i64 o.id, .int .i64 o.a, .int .i64 o.b, .int .i64 o.x, .int .i64 o.y, .int .i64 o.w, .int .i64 o.h, .slice o.l.a o.l.n o.l.c] (u.setCell ⟨gd, P + 3 + 3, none⟩ (.slice s2.a s2.n s2.c))) := fun u s2 h1 h2 h3 h4 => HW.out _ _ (hD.wfr u s2 o.a h1 h2 h3 (by rw [h4, hll]))
  have hsz := hl.size
  obtain ⟨i0, hi, hz0, hz1, hz2⟩ := infoMP infoM1
  have O1 : True := trivial
  have RL : True := trivial
  clear hO hY hD d1 hl hll HW hYg
  refine wp_region_gate_drew (g := 14) (S := RowKit.Below W1.heap.size W1) (by kernel_rfl) ?hh (fun hHeld => ?_)
  case hh => exact ((Below.refl _ _).drew)
  generalize W1.drew = V0 at hHeld ⊢
  try dsimp only at hHeld
  refine wpAnyG_take (i := 0) (v := ?_) rfl (by kernel_rfl) (by kernel_rfl) (by kernel_rfl) (by kernel_rfl) (fun _ _ _ h => h) (Or.inl ⟨by kernel_rfl, ?hy0⟩) (by assumption) ?_
  case hy0 => (intro wI hSw; (try dsimp only at hSw); obtain ⟨s1, s2, s3, ⟨t0, t1, t2, t3, t4, t5, t6, t7, t8, t9⟩⟩ := HCC.out _ hSw; go_simp; try with_reducible rfl)
  try simp only [Act.put, lqA, lqB, lqD, lqE, lqF]
  refine wpAnyG_take (i := 1) (v := ?_) rfl (by kernel_rfl) (by kernel_rfl) (by kernel_rfl) (by kernel_rfl) (fun _ _ _ h => h) (Or.inl ⟨by kernel_rfl, ?hy1⟩) (by assumption) ?_
  case hy1 => (intro wI hSw; (try dsimp only at hSw); obtain ⟨s1, s2, s3, ⟨t0, t1, t2, t3, t4, t5, t6, t7, t8, t9⟩⟩ := HCC.out _ hSw; go_simp; try with_reducible rfl)
  try simp only [Act.put, lqA, lqB, lqC, lqD, lqE, lqF]
  refine wpAnyG_take (i := 2) (v := ?_) rfl (by kernel_rfl) (by kernel_rfl) (by kernel_rfl) (by kernel_rfl) (fun _ _ _ h => h) (Or.inl ⟨by kernel_rfl, ?hy2⟩) (by assumption) ?_
  case hy2 => (intro wI hSw; (try dsimp only at hSw); obtain ⟨s1, s2, s3, ⟨t0, t1, t2, t3, t4, t5, t6, t7, t8, t9⟩⟩ := HCC.out _ hSw; go_simp; try with_reducible rfl)
  try simp only [Act.put, lqA, lqB, lqC, lqD, lqE, lqF]
  refine wpAnyG_take (i := 3) (v := ?_) rfl (by kernel_rfl) (by kernel_rfl) (by kernel_rfl) (by kernel_rfl) (fun _ _ _ h => h) (Or.inl ⟨by kernel_rfl, ?hy3⟩) (by assumption) ?_
  case hy3 => (intro wI hSw; (try dsimp only at hSw); obtain ⟨s1, s2, s3, ⟨t0, t1, t2, t3, t4, t5, t6, t7, t8, t9⟩⟩ := HCC.out _ hSw; go_simp; try with_reducible rfl)
  try simp only [Act.put, lqA, lqB, lqC, lqD, lqE, lqF]
  refine wpAnyG_take (i := 4) (v := ?_) rfl (by kernel_rfl) (by kernel_rfl) (by kernel_rfl) (by kernel_rfl) (fun _ _ _ h => h) (Or.inl ⟨by kernel_rfl, ?hy4⟩) (by assumption) ?_
  case hy4 => (intro wI hSw; (try dsimp only at hSw); obtain ⟨s1, s2, s3, ⟨t0, t1, t2, t3, t4, t5, t6, t7, t8, t9⟩⟩ := HCC.out _ hSw; go_simp; try with_reducible rfl)
  try simp only [Act.put, lqA, lqB, lqC, lqD, lqE, lqF]
  refine wpAnyG_take (i := 5) (v := ?_) rfl (by kernel_rfl) (by kernel_rfl) (by kernel_rfl) (by kernel_rfl) (fun _ _ _ h => h) (Or.inl ⟨by kernel_rfl, ?hy5⟩) (by assumption) ?_
  case hy5 => (intro wI hSw; (try dsimp only at hSw); obtain ⟨s1, s2, s3, ⟨t0, t1, t2, t3, t4, t5, t6, t7, t8, t9⟩⟩ := HCC.out _ hSw; go_simp; try with_reducible rfl)
  try simp only [Act.put, lqA, lqB, lqC, lqD, lqE, lqF]
  refine wpAnyG_take (i := 7) (v := ?_) rfl (by kernel_rfl) (by kernel_rfl) (by kernel_rfl) (by kernel_rfl) (fun _ _ _ h => h) (Or.inl ⟨by kernel_rfl, ?hy7⟩) (by assumption) ?_
  case hy7 => (intro wI hSw; (try dsimp only at hSw); obtain ⟨s1, s2, s3, ⟨t0, t1, t2, t3, t4, t5, t6, t7, t8, t9⟩⟩ := HCC.out _ hSw; go_simp; try with_reducible rfl)
  try simp only [Act.put, lqA, lqB, lqC, lqD, lqE, lqF]
  refine wpAnyG_take (i := 8) (v := ?_) rfl (by kernel_rfl) (by kernel_rfl) (by kernel_rfl) (by kernel_rfl) (fun _ _ _ h => h) (Or.inl ⟨by kernel_rfl, ?hy8⟩) (by assumption) ?_
  case hy8 => (intro wI hSw; (try dsimp only at hSw); obtain ⟨s1, s2, s3, ⟨t0, t1, t2, t3, t4, t5, t6, t7, t8, t9⟩⟩ := HCC.out _ hSw; go_simp; try with_reducible rfl)
  try simp only [Act.put, lqA, lqB, lqC, lqD, lqE, lqF]
  refine wpAnyG_ready (rs := [6, 9]) (by kernel_rfl) (by simp) ?_
  refine AllReadyG.cons rfl (fun K hK => ?_) ?_
  ·go_simp
   go_wp2_with fail
   refine (HREC.out V0 hHeld).mono ?_
   rintro e W6 ⟨v1, rfl, hv1⟩
   have hb1 := hv1.bel
   have hH2 := Below.on hHeld hb1
   try replace RL := RL.on hb1
   have o1' : World.ownsRow W6 W1.heap.size 3 1 v1 l.n (mcs l.l) := by rw [← hlsz]; exact ownsRow_low hv1.own hHeld.size
   refine hK.out _ _ hH2 (fun _ => ?_)
   clear hK K hHeld hb1 hv1 O1
   have hHeld := hH2
   have O1 := o1'
   clear hH2 o1'
   try simp only [Act.put, lqA, lqB, lqC, lqD, lqE, lqF]
   refine wpAnyG_ready (rs := [9]) (by kernel_rfl) (by simp) ?_
   refine AllReadyG.cons rfl (fun K hK => ?_) AllReadyG.nil
   have hb1 := bel_new W6 (.cells #[.int .i64 o.a] 3)
   have hH2 := Below.on hHeld hb1
   have rl := lit1s W6 o
   try replace O1 := ownsRow_below O1 hb1
   go_simp
   refine hK.out _ _ hH2 (fun _ => ?_)
   clear hK K hHeld hb1 RL
   generalize W6.alloc (.cells #[.int .i64 o.a] 3) = W9 at *
   generalize W6.heap.size = gl at *
   have hHeld := hH2
   have RL := rl
   clear hH2 rl
   try simp only [Act.put, lqA, lqB, lqC, lqD, lqE, lqF]
   refine wpAnyG_ready (rs := [10]) (by kernel_rfl) (by simp) ?_
   refine AllReadyG.cons rfl (fun K hK => ?_) AllReadyG.nil
   refine step_appG (by kernel_rfl) (.tmp 136) (.tmp 139) 63 63 rfl W1.heap.size 3 i0 (.int .i64 0) 1 8 Tryz.underlying63 hi hz0 hz1 hz2 rfl _ _ _ (by simp [Act.eval]) O1 _ _ _ (by simp [Act.eval]) (RL.src (P := Tryz.prog) (t := 63) (e := 3) Tryz.underlying63) (by simp only [maxLen]; omega) (fitsM (by omega) (by decide)) hHeld.size ?_
   intro v2 W10 o2 g2
   have hH2 := hHeld.grown g2 hHeld.size (fun k hk => (O1.lt k hk).1)
   have o2' : World.ownsRow W10 W1.heap.size 3 1 v2 (l.n + 1) (mcs (l.l ++ [[o.a]])) := by rw [mcs_append]; exact o2
   obtain ⟨s2, rfl, hsn, hsl, hsr, hso⟩ := own_sl o2' (by rw [List.length_append, hlsz]; rfl) (fun y hy => by rcases List.mem_append.1 hy with hy | hy; exact hsz y hy; obtain rfl := List.mem_singleton.1 hy; rfl)
   have hNN := HN.out _ s2 hH2 hsr (fun y hy _ => own_fy hso y hy) hsl
   have HNN := hid hNN
   have hcc := HCC.out _ hH2
   rw [Sl.v]
   refine hK.out _ _ hH2 (fun _ => ?_)
   clear hK K hHeld g2 o2 O1 RL o2' hsn hsl hsr hso hNN
   have hHeld := hH2
   clear hH2
   try simp only [Act.put, lqA, lqB, lqC, lqD, lqE, lqF]
   refine wpAnyG_take (i := 11) (v := ?_) rfl (by kernel_rfl) (by kernel_rfl) (by kernel_rfl) (by kernel_rfl) (fun _ _ _ h => h) (Or.inl ⟨by kernel_rfl, ?hy11⟩) (by assumption) ?_
   case hy11 => (intro wI hSw; (try dsimp only at hSw); obtain ⟨s1, s2, s3, ⟨t0, t1, t2, t3, t4, t5, t6, t7, t8, t9⟩⟩ := HCC.out _ hSw; go_simp; try with_reducible rfl)
   try simp only [Act.put, lqA, lqB, lqC, lqD, lqE, lqF]
   refine wpAnyG_take (i := 12) (v := ?_) rfl (by kernel_rfl) (by kernel_rfl) (by kernel_rfl) (by kernel_rfl) (fun _ _ _ h => h) (Or.inl ⟨by kernel_rfl, ?hy12⟩) (by assumption) ?_
   case hy12 => (intro wI hSw; (try dsimp only at hSw); obtain ⟨s1, s2, s3, ⟨t0, t1, t2, t3, t4, t5, t6, t7, t8, t9⟩⟩ := HCC.out _ hSw; go_simp; try with_reducible rfl)
   try simp only [Act.put, lqA, lqB, lqC, lqD, lqE, lqF]
   refine wpAnyG_take (i := 13) (v := ?_) rfl (by kernel_rfl) (by kernel_rfl) (by kernel_rfl) (by kernel_rfl) (fun _ _ _ h => h) (Or.inl ⟨by kernel_rfl, ?hy13⟩) (by assumption) ?_
   case hy13 => (intro wI hSw; (try dsimp only at hSw); obtain ⟨s1, s2, s3, ⟨t0, t1, t2, t3, t4, t5, t6, t7, t8, t9⟩⟩ := HCC.out _ hSw; go_simp; try with_reducible rfl)
   try simp only [Act.put, lqA, lqB, lqC, lqD, lqE, lqF]
   have hG := hHeld
   clear hHeld
   have hHeld : True := trivial
   refine wpAnyG_gateOp rfl (by kernel_rfl) (fun K hK => ?_)
   obtain ⟨k1, k2, k3, k4⟩ := hcc
   go_simp
   refine hK.out _ _ trivial (fun _ => ?_)
   clear hK K k1 k2 k3 k4
   try simp only [Act.put, lqA, lqB, lqC, lqD, lqE, lqF]
   refine wpAnyH_done (by kernel_rfl) ?_ _
   have hO2 := HNN.out
   generalize World.setCell _ _ _ = V9 at *
   clear hG hHeld HNN HN HREC HCC
   have hys' := hasE_yes hys
   obtain ⟨t0, t1, t2, t3, t4, t5, t6, t7, t8, t9⟩ := hO2.oc
   have CA := hid (hO2.left (pq_frm hm2 o.id o.a ok.id))
   rw [hys'] at CA
   clear hO2
   go_wp2_with fail
   refine CA.out.mono ?_
   rintro e Y2 ⟨rfl, hO3⟩
   have CK := hid (hO3.kind 0 (by decide))
   rw [show erv es 0 = .nilIface from rfl] at CK
   rw [show erv es 0 = .nilIface from rfl]
   clear hO3 CA
   go_wp2_with fail
   refine CK.out.mono ?_
   rintro e Y3 ⟨rfl, hO4⟩
   have HF := hid hO4
   clear hO4 CK
   go_wp2
   go_ret
   exact ⟨rfl, _, HF.out.two (by omega)⟩
  refine AllReadyG.cons rfl (fun K hK => ?_) ?_
  ·have hb1 := bel_new V0 (.cells #[.int .i64 o.a] 3)
   have hH2 := Below.on hHeld hb1
   have rl := lit1s V0 o
   try replace O1 := ownsRow_below O1 hb1
   go_simp
   refine hK.out _ _ hH2 (fun _ => ?_)
   clear hK K hHeld hb1 RL
   generalize V0.alloc (.cells #[.int .i64 o.a] 3) = W9 at *
   generalize V0.heap.size = gl at *
   have hHeld := hH2
   have RL := rl
   clear hH2 rl
   try simp only [Act.put, lqA, lqB, lqC, lqD, lqE, lqF]
   refine wpAnyG_ready (rs := [6]) (by kernel_rfl) (by simp) ?_
   refine AllReadyG.cons rfl (fun K hK => ?_) AllReadyG.nil
   go_simp
   go_wp2_with fail
   refine (HREC.out W9 hHeld).mono ?_
   rintro e W6 ⟨v1, rfl, hv1⟩
   have hb1 := hv1.bel
   have hH2 := Below.on hHeld hb1
   try replace RL := RL.on hb1
   have o1' : World.ownsRow W6 W1.heap.size 3 1 v1 l.n (mcs l.l) := by rw [← hlsz]; exact ownsRow_low hv1.own hHeld.size
   refine hK.out _ _ hH2 (fun _ => ?_)
   clear hK K hHeld hb1 hv1 O1
   have hHeld := hH2
   have O1 := o1'
   clear hH2 o1'
   try simp only [Act.put, lqA, lqB, lqC, lqD, lqE, lqF]
   refine wpAnyG_ready (rs := [10]) (by kernel_rfl) (by simp) ?_
   refine AllReadyG.cons rfl (fun K hK => ?_) AllReadyG.nil
   refine step_appG (by kernel_rfl) (.tmp 136) (.tmp 139) 63 63 rfl W1.heap.size 3 i0 (.int .i64 0) 1 8 Tryz.underlying63 hi hz0 hz1 hz2 rfl _ _ _ (by simp [Act.eval]) O1 _ _ _ (by simp [Act.eval]) (RL.src (P := Tryz.prog) (t := 63) (e := 3) Tryz.underlying63) (by simp only [maxLen]; omega) (fitsM (by omega) (by decide)) hHeld.size ?_
   intro v2 W10 o2 g2
   have hH2 := hHeld.grown g2 hHeld.size (fun k hk => (O1.lt k hk).1)
   have o2' : World.ownsRow W10 W1.heap.size 3 1 v2 (l.n + 1) (mcs (l.l ++ [[o.a]])) := by rw [mcs_append]; exact o2
   obtain ⟨s2, rfl, hsn, hsl, hsr, hso⟩ := own_sl o2' (by rw [List.length_append, hlsz]; rfl) (fun y hy => by rcases List.mem_append.1 hy with hy | hy; exact hsz y hy; obtain rfl := List.mem_singleton.1 hy; rfl)
   have hNN := HN.out _ s2 hH2 hsr (fun y hy _ => own_fy hso y hy) hsl
   have HNN := hid hNN
   have hcc := HCC.out _ hH2
   rw [Sl.v]
   refine hK.out _ _ hH2 (fun _ => ?_)
   clear hK K hHeld g2 o2 O1 RL o2' hsn hsl hsr hso hNN
   have hHeld := hH2
   clear hH2
   try simp only [Act.put, lqA, lqB, lqC, lqD, lqE, lqF]
   refine wpAnyG_take (i := 11) (v := ?_) rfl (by kernel_rfl) (by kernel_rfl) (by kernel_rfl) (by kernel_rfl) (fun _ _ _ h => h) (Or.inl ⟨by kernel_rfl, ?hy11⟩) (by assumption) ?_
   case hy11 => (intro wI hSw; (try dsimp only at hSw); obtain ⟨s1, s2, s3, ⟨t0, t1, t2, t3, t4, t5, t6, t7, t8, t9⟩⟩ := HCC.out _ hSw; go_simp; try with_reducible rfl)
   try simp only [Act.put, lqA, lqB, lqC, lqD, lqE, lqF]
   refine wpAnyG_take (i := 12) (v := ?_) rfl (by kernel_rfl) (by kernel_rfl) (by kernel_rfl) (by kernel_rfl) (fun _ _ _ h => h) (Or.inl ⟨by kernel_rfl, ?hy12⟩) (by assumption) ?_
   case hy12 => (intro wI hSw; (try dsimp only at hSw); obtain ⟨s1, s2, s3, ⟨t0, t1, t2, t3, t4, t5, t6, t7, t8, t9⟩⟩ := HCC.out _ hSw; go_simp; try with_reducible rfl)
   try simp only [Act.put, lqA, lqB, lqC, lqD, lqE, lqF]
   refine wpAnyG_take (i := 13) (v := ?_) rfl (by kernel_rfl) (by kernel_rfl) (by kernel_rfl) (by kernel_rfl) (fun _ _ _ h => h) (Or.inl ⟨by kernel_rfl, ?hy13⟩) (by assumption) ?_
   case hy13 => (intro wI hSw; (try dsimp only at hSw); obtain ⟨s1, s2, s3, ⟨t0, t1, t2, t3, t4, t5, t6, t7, t8, t9⟩⟩ := HCC.out _ hSw; go_simp; try with_reducible rfl)
   try simp only [Act.put, lqA, lqB, lqC, lqD, lqE, lqF]
   have hG := hHeld
   clear hHeld
   have hHeld : True := trivial
   refine wpAnyG_gateOp rfl (by kernel_rfl) (fun K hK => ?_)
   obtain ⟨k1, k2, k3, k4⟩ := hcc
   go_simp
   refine hK.out _ _ trivial (fun _ => ?_)
   clear hK K k1 k2 k3 k4
   try simp only [Act.put, lqA, lqB, lqC, lqD, lqE, lqF]
   refine wpAnyH_done (by kernel_rfl) ?_ _
   have hO2 := HNN.out
   generalize World.setCell _ _ _ = V9 at *
   clear hG hHeld HNN HN HREC HCC
   have hys' := hasE_yes hys
   obtain ⟨t0, t1, t2, t3, t4, t5, t6, t7, t8, t9⟩ := hO2.oc
   have CA := hid (hO2.left (pq_frm hm2 o.id o.a ok.id))
   rw [hys'] at CA
   clear hO2
   go_wp2_with fail
   refine CA.out.mono ?_
   rintro e Y2 ⟨rfl, hO3⟩
   have CK := hid (hO3.kind 0 (by decide))
   rw [show erv es 0 = .nilIface from rfl] at CK
   rw [show erv es 0 = .nilIface from rfl]
   clear hO3 CA
   go_wp2_with fail
   refine CK.out.mono ?_
   rintro e Y3 ⟨rfl, hO4⟩
   have HF := hid hO4
   clear hO4 CK
   go_wp2
   go_ret
   exact ⟨rfl, _, HF.out.two (by omega)⟩
  exact AllReadyG.nil
end
end Go.Proofs.YtkjempffidndeaaGreatDoor
