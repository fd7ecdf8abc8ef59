/- Lemmas that the proof leans on. -/
import Derived.Test.YtkjempffidndeaaGreatDoorB20
import Derived.Maps.RangeWalk
namespace Go.Proofs.YtkjempffidndeaaGreatDoor
open Go Go.RowKit
open List renaming getElem_toArray → lqA, getElem_cons_zero → lqB, getElem_cons_succ → lqC, setIfInBounds_toArray → lqD, set_cons_zero → lqE, set_cons_succ → lqF
set_option maxRecDepth 100000
set_option maxHeartbeats 1000000
section
variable {base : Nat} {w0 w w' : World} {p m : Nat} {L L' : Po} {F : Fo} {id : Int} {es : List Addr} {e : Ps}
theorem Acy.ne {F : Fo} (h : Acy F) {x : Int} {s : Sf} (hs : gt F x = some s) : s.par ≠ x := fun e1 => by
 have := dpt_lt h hs
 rw [e1] at this
 omega
theorem fleave_any (hE : Fe w es) (hB : 16 ≤ base) (h : Pf base w p m L) (hN : Nok L) (hL : Few L) (he : gt L id = some e) :
  Calls Tryz.prog 77 #[.pointer (some ⟨p, 0, none⟩), .int .i64 id, .pointer (some ⟨e.g, 0, none⟩)] w fun e' w' => e' = .returned undef ∧ ∃ L', PfR base w p m L (unsF (pab L) id) w' L' := by
 have hs : gt (pab L) id = some e.s.f := by rw [gt_pab, he]; rfl
 have c1 : w.cell? ⟨e.g, 30, none⟩ = some (.int .i64 e.s.par) := h.cell he
 have hlt := (h.wlt he (mem_wb.2 (.inl rfl))).2
 cases h0 : (e.s.par == 0)
 ·have h0' : e.s.par ≠ 0 := by simpa using h0
  obtain ⟨ep, hep, hpt⟩ := hN.up he h0'
  have hne : e.s.par ≠ id := hN.acy.ne hs
  have HU : Hid (unsF (pab L) id = upd (upd (pab L) e.s.par (outS id)) id fun s => { s with par := 0 }) := by
   rw [Hid, unsF, hs]
   simp only [Sr.f, h0', if_false]
  have HR : Hid (∀ W : World, Below w.heap.size w W → (Instr.lookup 95 (.map (some m)) (.int .i64 e.s.par) false).run Tryz.prog W = .ok (.pointer (some ⟨ep.g, 0, none⟩)) W ∧ W.cell? ⟨p, 0, none⟩ = some (.map (some m)) ∧ W.cell? ⟨e.g, 30, none⟩ = some (.int .i64 e.s.par) ∧ p < W.heap.size ∧ e.g < W.heap.size) := fun W hW => by
   have h1 := h.on hW
   refine ⟨?_, h1.c0, h1.cell he, h1.lt.1, (h1.wlt he (mem_wb.2 (.inl rfl))).2⟩
   have := h1.run (hN.key id e he).2
   rw [hpt] at this
   exact this
  have HF : Hid (∀ W : World, Below w.heap.size w W → Calls Tryz.prog 116 #[.pointer (some ⟨ep.g, 0, none⟩), .int .i64 id] W fun e' w' => e' = .returned undef ∧ w'.cell? ⟨e.g, 30, none⟩ = some (.int .i64 e.s.par) ∧ (∀ j, w'.frozen? ⟨e.g, j, none⟩ = false) ∧ e.g < w'.heap.size ∧ ∃ L', PfR base w p m L (unsF (pab L) id) (w'.setCell ⟨e.g, 30, none⟩ (.int .i64 0)) L') := fun W hW => by
   refine (fforget_any (hE.on hW) hB (h.on hW) hep hL id).mono fun e' w' ⟨h1, s', hR, _, _⟩ => ⟨h1, ?_⟩
   have he1 : gt (st L e.s.par ⟨ep.g, s'⟩) id = some e := by rw [gt_st, if_neg (fun e1 => hne e1.symm)]; exact he
   have c1 : w'.cell? ⟨e.g, 30, none⟩ = some (.int .i64 e.s.par) := hR.pf.cell he1
   refine ⟨c1, hR.pf.fz he1, (hR.pf.wlt he1 (mem_wb.2 (.inl rfl))).2, _, (((PfR.refl h hW).trans hR).trans (hR.pf.putPar he1 (Below.refl _ _) 0)).as ?_⟩
   rw [hR.ab, HU.out]
  clear h hE hN hL he hs hep hpt hne HU h0'
  go_enter Tryz.func77, Tryz.ntmps77
  go_upto_region 1 with fail
  clear c1
  refine wp_region_gate_drew (g := 10) (S := RowKit.Below w.heap.size w) (by kernel_rfl) ?hh (fun hHeld => ?_)
  case hh => exact ((Below.refl _ _).drew)
  generalize w.drew = W0 at hHeld ⊢
  try dsimp only at hHeld
  refine wpAnyG_take (i := 0) (v := ?_) rfl (by kernel_rfl) (by kernel_rfl) (by kernel_rfl) (by kernel_rfl) (fun _ _ _ h => h) (Or.inl ⟨by kernel_rfl, ?hy0⟩) (by assumption) ?_
  case hy0 => (intro wI hSw; (try dsimp only at hSw); obtain ⟨t1, t2, t3, t4, t5⟩ := HR.out _ hSw; go_simp; try with_reducible rfl)
  try simp only [Act.put, lqA, lqB, lqD, lqE, lqF]
  refine wpAnyG_take (i := 1) (v := ?_) rfl (by kernel_rfl) (by kernel_rfl) (by kernel_rfl) (by kernel_rfl) (fun _ _ _ h => h) (Or.inl ⟨by kernel_rfl, ?hy1⟩) (by assumption) ?_
  case hy1 => (intro wI hSw; (try dsimp only at hSw); obtain ⟨t1, t2, t3, t4, t5⟩ := HR.out _ hSw; go_simp; try with_reducible rfl)
  try simp only [Act.put, lqA, lqB, lqC, lqD, lqE, lqF]
  refine wpAnyG_take (i := 2) (v := ?_) rfl (by kernel_rfl) (by kernel_rfl) (by kernel_rfl) (by kernel_rfl) (fun _ _ _ h => h) (Or.inl ⟨by kernel_rfl, ?hy2⟩) (by assumption) ?_
  case hy2 => (intro wI hSw; (try dsimp only at hSw); obtain ⟨t1, t2, t3, t4, t5⟩ := HR.out _ hSw; go_simp; try with_reducible rfl)
  try simp only [Act.put, lqA, lqB, lqC, lqD, lqE, lqF]
  refine wpAnyG_take (i := 3) (v := ?_) rfl (by kernel_rfl) (by kernel_rfl) (by kernel_rfl) (by kernel_rfl) (fun _ _ _ h => h) (Or.inl ⟨by kernel_rfl, ?hy3⟩) (by assumption) ?_
  case hy3 => (intro wI hSw; (try dsimp only at hSw); obtain ⟨t1, t2, t3, t4, t5⟩ := HR.out _ hSw; go_simp; try with_reducible rfl)
  try simp only [Act.put, lqA, lqB, lqC, lqD, lqE, lqF]
  refine wpAnyG_take (i := 4) (v := ?_) rfl (by kernel_rfl) (by kernel_rfl) (by kernel_rfl) (by kernel_rfl) (fun _ _ _ h => h) (Or.inl ⟨by kernel_rfl, ?hy4⟩) (by assumption) ?_
  case hy4 => (intro wI hSw; (try dsimp only at hSw); obtain ⟨t1, t2, t3, t4, t5⟩ := HR.out _ hSw; go_simp; try with_reducible rfl)
  try simp only [Act.put, lqA, lqB, lqC, lqD, lqE, lqF]
  refine wpAnyG_take (i := 5) (v := ?_) rfl (by kernel_rfl) (by kernel_rfl) (by kernel_rfl) (by kernel_rfl) (fun _ _ _ h => h) (Or.inl ⟨by kernel_rfl, ?hy5⟩) (by assumption) ?_
  case hy5 => (intro wI hSw; (try dsimp only at hSw); obtain ⟨t1, t2, t3, t4, t5⟩ := HR.out _ hSw; go_simp; try with_reducible rfl)
  try simp only [Act.put, lqA, lqB, lqC, lqD, lqE, lqF]
  refine wpAnyG_take (i := 6) (v := ?_) rfl (by kernel_rfl) (by kernel_rfl) (by kernel_rfl) (by kernel_rfl) (fun _ _ _ h => h) (Or.inl ⟨by kernel_rfl, ?hy6⟩) (by assumption) ?_
  case hy6 => (intro wI hSw; (try dsimp only at hSw); obtain ⟨t1, t2, t3, t4, t5⟩ := HR.out _ hSw; go_simp; try with_reducible rfl)
  try simp only [Act.put, lqA, lqB, lqC, lqD, lqE, lqF]
  refine wpAnyG_take (i := 7) (v := ?_) rfl (by kernel_rfl) (by kernel_rfl) (by kernel_rfl) (by kernel_rfl) (fun _ _ _ h => h) (Or.inl ⟨by kernel_rfl, ?hy7⟩) (by assumption) ?_
  case hy7 => (intro wI hSw; (try dsimp only at hSw); obtain ⟨t1, t2, t3, t4, t5⟩ := HR.out _ hSw; go_simp; try with_reducible rfl)
  try simp only [Act.put, lqA, lqB, lqC, lqD, lqE, lqF]
  refine wpAnyG_take (i := 8) (v := ?_) rfl (by kernel_rfl) (by kernel_rfl) (by kernel_rfl) (by kernel_rfl) (fun _ _ _ h => h) (Or.inl ⟨by kernel_rfl, ?hy8⟩) (by assumption) ?_
  case hy8 => (intro wI hSw; (try dsimp only at hSw); obtain ⟨t1, t2, t3, t4, t5⟩ := HR.out _ hSw; go_simp; try with_reducible rfl)
  try simp only [Act.put, lqA, lqB, lqC, lqD, lqE, lqF]
  refine wpAnyG_take (i := 9) (v := ?_) rfl (by kernel_rfl) (by kernel_rfl) (by kernel_rfl) (by kernel_rfl) (fun _ _ _ h => h) (Or.inl ⟨by kernel_rfl, ?hy9⟩) (by assumption) ?_
  case hy9 => (intro wI hSw; (try dsimp only at hSw); obtain ⟨t1, t2, t3, t4, t5⟩ := HR.out _ hSw; go_simp; try with_reducible rfl)
  try simp only [Act.put, lqA, lqB, lqC, lqD, lqE, lqF]
  have hG := hHeld
  clear hHeld
  have hHeld : True := trivial
  refine wpAnyG_gateOp rfl (by kernel_rfl) (fun K hK => ?_)
  go_simp
  go_wp2_with fail
  refine (HF.out _ hG).mono ?_
  rintro e' W10 ⟨rfl, d1, d2, d3, d4⟩
  have HX := hid d4
  refine hK.out _ _ trivial (fun _ => ?_)
  clear hK K d4 hG HF HR
  try simp only [Act.put, lqA, lqB, lqC, lqD, lqE, lqF]
  refine wpAnyH_done (by kernel_rfl) ?_ _
  go_wp2
  go_end0
  exact ⟨rfl, HX.out⟩
 ·have h0' : e.s.par = 0 := by simpa using h0
  have HX : Hid (PfR base w p m L (unsF (pab L) id) w L) := (PfR.refl h (Below.refl _ _)).as (by rw [unsF, hs]; simp [Sr.f, h0'])
  clear h hE hN hL he hs h0'
  go_enter Tryz.func77, Tryz.ntmps77
  go_wp2
  refine bodyPost_ret (results_none rfl _ _ _) rfl ?_
  exact ⟨rfl, _, HX.out⟩
theorem funsub_any (hE : Fe w es) (hB : 16 ≤ base) (h : Pf base w p m L) (hN : Nok L) (hL : Few L) (id : Int) (hi : Bt id) :
  Calls Tryz.prog 40 #[.pointer (some ⟨p, 0, none⟩), .int .i64 id] w fun e w' => e = .returned (erv es (unsE (pab L) id)) ∧ ∃ L', PfR base w p m L (unsF (pab L) id) w' L' := by
 have HF := hid (ffindsub_any hE h id hi (fun e he => (hN.key id e he).2))
 cases hq : gt L id with
 | none =>
  have HT : Hid (fs1 L id = none ∧ fs2 L id = none ∧ unsE (pab L) id = 5) := ⟨by rw [fs1, hq], by rw [fs2, hq], by rw [unsE, gt_pab, hq]; rfl⟩
  have HX : Hid (∀ q, PfR base w p m L (unsF (pab L) id) (w.drewN q) L) := fun q => (PfR.refl h (below_drewN (Below.refl _ _) q)).as (by rw [unsF, gt_pab, hq]; rfl)
  rw [HT.out.1, HT.out.2.1, HT.out.2.2] at HF
  rw [HT.out.2.2]
  clear hq h hE HT hN hL
  go_enter Tryz.func40, Tryz.ntmps40
  go_wp2_with fail
  refine HF.out.mono ?_
  rintro e w1 ⟨rfl, q1, rfl⟩
  rw [ptv_none, erv_succ]
  go_wp2
  go_ret
  exact ⟨rfl, L, HX.out q1⟩
 | some e =>
  cases h0 : (e.s.par == 0)
  ·have h0' : e.s.par ≠ 0 := by simpa using h0
   have HT : Hid (fs1 L id = some e.g ∧ unsE (pab L) id = 0) := ⟨by rw [fs1, hq]; simp [h0'], by rw [unsE, gt_pab, hq]; simp [Sr.f, h0']⟩
   rw [HT.out.1, HT.out.2] at HF
   rw [HT.out.2]
   have HX : Hid (∀ q, Calls Tryz.prog 77 #[.pointer (some ⟨p, 0, none⟩), .int .i64 id, .pointer (some ⟨e.g, 0, none⟩)] (w.drewN q) fun e' w' => e' = .returned undef ∧ ∃ L', PfR base w p m L (unsF (pab L) id) w' L') := fun q =>
    (fleave_any (hE.drewN q) hB (h.drewN q) hN hL hq).mono fun e' w' ⟨h1, L', hR⟩ => ⟨h1, L', (PfR.refl h (below_drewN (Below.refl _ _) q)).trans hR⟩
   generalize fs2 L id = f2 at HF
   clear hq h hE HT hN hL h0' h0
   go_enter Tryz.func40, Tryz.ntmps40
   go_wp2_with fail
   refine HF.out.mono ?_
   rintro e' w1 ⟨rfl, q1, rfl⟩
   rw [ptv_some, erv0]
   go_wp2_with fail
   refine (HX.out q1).mono ?_
   rintro e' w2 ⟨rfl, hx⟩
   have HY := hid hx
   clear hx
   go_wp2
   go_ret
   exact ⟨rfl, HY.out⟩
  ·have h0' : e.s.par = 0 := by simpa using h0
   have HT : Hid (fs1 L id = none ∧ fs2 L id = none ∧ unsE (pab L) id = 10) := ⟨by rw [fs1, hq]; simp [h0'], by rw [fs2, hq]; simp [h0'], by rw [unsE, gt_pab, hq]; simp [Sr.f, h0']⟩
   have HX : Hid (∀ q, PfR base w p m L (unsF (pab L) id) (w.drewN q) L) := fun q => (PfR.refl h (below_drewN (Below.refl _ _) q)).as (by rw [unsF, gt_pab, hq]; simp [Sr.f, h0'])
   rw [HT.out.1, HT.out.2.1, HT.out.2.2] at HF
   rw [HT.out.2.2]
   clear hq h hE HT hN h0' hL
   go_enter Tryz.func40, Tryz.ntmps40
   go_wp2_with fail
   refine HF.out.mono ?_
   rintro e w1 ⟨rfl, q1, rfl⟩
   rw [ptv_none, erv_succ]
   go_wp2
   go_ret
   exact ⟨rfl, L, HX.out q1⟩
theorem Pf.del (h : Pf base w p m L) {D : DataW Unit} (hD : Rp ptd none D (pmp L)) {n : Nat} (ho : w'.ownsMap Tryz.prog 3 ptR m n (D.del (.int .i64 id))) (ht : w.mapTurned w' m) :
  PfR base w p m L (rm (pab L) id) w' (rm L id) := by
 have hk := kp_turned ht
 have hgt : ∀ x e', gt (rm L id) x = some e' → x ≠ id ∧ gt L x = some e' := fun x e' hx => by
  rw [gt_rm] at hx
  split at hx
  ·cases hx
  ·rename_i hne
   exact ⟨hne, hx⟩
 have hpm : pmp (rm L id) = rm (pmp L) id := by
  rw [pmp, rm, rm, pmp, List.filter_map]
  rfl
 have hpa : pab (rm L id) = rm (pab L) id := by
  rw [pab, rm, rm, pab, List.filter_map]
  rfl
 have hnd := keys_rm h.nd id
 have hRp : Rp ptd none (D.del (.int .i64 id)) (pmp (rm L id)) := by rw [hpm]; exact hD.del id
 refine ⟨⟨h.lop, h.lom, h.ne, hk.var h.obj (by simpa using h.ne), ⟨_, ?_, hRp⟩, hnd, fun x e hx => ?_, fun x e hx => ?_, fun x e hx => h.sep x e (hgt x e hx).2, fun x y e1 e2 h1 h2 => h.sep2 x y e1 e2 (hgt _ _ h1).2 (hgt _ _ h2).2, fun x e hx => h.far x e (hgt x e hx).2⟩, hpa, hk.mono (fun b hb _ => by simp only [List.mem_cons, List.not_mem_nil, or_false] at hb; rw [hb]; exact List.mem_cons_self), fun b hb => ?_, fun b _ ho x e1 h1 => ho x e1 (hgt x e1 h1).2⟩
 ·have := ptight ho Tryz.underlying3 hRp (by rw [pmp_keys]; exact hnd)
  rw [pmp_length] at this
  exact this
 ·have hx' := (hgt x e hx).2
  exact hk.var (h.srf x e hx') (by simpa using ((h.sep x e hx').2 e.g (mem_wb.2 (.inl rfl))).2.2.1)
 ·have hx' := (hgt x e hx).2
  exact (h.rows x e hx').kp hk (fun b hb hm => ((h.sep x e hx').2 b hb).2.2.1 (by simpa using hm)) (fun z hz b hb => by simp only [List.mem_cons, List.not_mem_nil, or_false] at hb; rw [hb]; exact (h.far x e hx' z hz).2)
 ·obtain ⟨x, e1, h1, h2⟩ := (mem_wbs hnd).1 hb
  exact .inl ((mem_wbs h.nd).2 ⟨x, e1, (hgt x e1 h1).2, h2⟩)
def rsP (id : Int) (e : Ps) : Ps := if e.s.par = id then ⟨e.g, { e.s with par := 0 }⟩ else e
def rsL (id : Int) (left : Int → Bool) (L : Po) : Po := L.map fun e => (e.1, if left e.1 then e.2 else rsP id e.2)
theorem gt_rsL (id : Int) (left : Int → Bool) (L : Po) (x : Int) : gt (rsL id left L) x = (gt L x).map fun e => if left x then e else rsP id e := by
 induction L with
 | nil => rfl
 | cons e L ih =>
  rw [rsL, List.map_cons, gt, gt]
  by_cases h : e.1 = x
  ·rw [if_pos h, if_pos h, ← h]
   rfl
  ·rw [if_neg h, if_neg h]
   exact ih
theorem rsP_g (id : Int) (e : Ps) : (rsP id e).g = e.g := by unfold rsP; split <;> rfl
theorem rsL_st (hn : (keys L).Nodup) {left : Int → Bool} {x : Int} {e : Ps} (he : gt L x = some e) (hl : left x = true) : st (rsL id left L) x (rsP id e) = rsL id (fun z => left z && !(z == x)) L := by
 rw [st, rsL, rsL, List.map_map]
 refine List.map_congr_left fun y hy => ?_
 simp only [Function.comp]
 by_cases hx : y.1 = x
 ·have := gt_of_mem hn hy
  rw [hx, he] at this
  cases this
  rw [if_pos hx]
  simp [hx, hl]
 ·rw [if_neg hx]
  simp [hx]
theorem rsL_same (hn : (keys L).Nodup) {left : Int → Bool} {x : Int} {e : Ps} (he : gt L x = some e) (hl : left x = true) (hp : e.s.par ≠ id) : rsL id left L = rsL id (fun z => left z && !(z == x)) L := by
 have h1 := rsL_st (id := id) hn he hl
 have h2 : gt (rsL id left L) x = some (rsP id e) := by rw [gt_rsL, he]; simp [hl, rsP, hp]
 have h3 : (keys (rsL id left L)).Nodup := by
  have : keys (rsL id left L) = keys L := by simp [keys, rsL]
  rw [this]
  exact hn
 rw [st_self h3 h2] at h1
 exact h1
theorem rsL_all (id : Int) {left : Int → Bool} {L : Po} (h : ∀ x ∈ keys L, left x = true) : rsL id left L = L := by
 rw [rsL]
 conv => rhs; rw [← List.map_id L]
 refine List.map_congr_left fun x hx => ?_
 rw [if_pos (h _ (List.mem_map_of_mem hx))]
 rfl
theorem drpF_rsL {L1 : Po} (hg : (gt L id).isSome = true) (h1 : pab L1 = unsF (pab L) id) {left : Int → Bool} (hl : ∀ x ∈ keys L1, left x = false) : rm (pab (rsL id left L1)) id = drpF (pab L) id := by
 obtain ⟨e, he⟩ := Option.isSome_iff_exists.1 hg
 rw [drpF, gt_pab, he]
 simp only [Option.map_some]
 rw [← h1, pab, pab, rm, rm, rsL, List.map_map, List.filter_map, List.filter_map, List.map_map]
 refine List.map_congr_left fun x hx => ?_
 have hxm := (List.mem_filter.1 hx).1
 simp only [Function.comp, hl x.1 (List.mem_map_of_mem hxm)]
 unfold rsP
 simp only [Bool.false_eq_true, if_false]
 by_cases hp : x.2.s.par = id
 ·simp [hp, Sr.f]
 ·simp [hp, Sr.f]
theorem Pf.iter {w1 : World} {L1 : Po} (h1 : Pf base w1 p m L1) {left : Int → Bool} (h : Pf base w p m (rsL id left L1)) {r : Nat} (hg : w.grownBy w' (some r)) (hr : w1.heap.size ≤ r) : Pf base w' p m (rsL id left L1) := by
 have hk : Kp [r] w w' := kp_of_grown hg
 obtain ⟨a1, a2⟩ := h1.lt
 refine h.kept hk (by simp only [List.mem_cons, List.not_mem_nil, or_false]; omega) (by simp only [List.mem_cons, List.not_mem_nil, or_false]; omega) (fun x e hx => ?_)
 rw [gt_rsL] at hx
 obtain ⟨e1, he1, rfl⟩ := Option.map_eq_some_iff.1 hx
 have hw : ∀ e2 : Ps, e2 = e1 ∨ e2 = rsP id e1 → wb e2 = wb e1 ∧ ros e2.s = ros e1.s := fun e2 h2 => by
  rcases h2 with rfl | rfl
  ·exact ⟨rfl, rfl⟩
  ·unfold rsP
   split <;> exact ⟨rfl, rfl⟩
 obtain ⟨q1, q2⟩ := hw (if left x = true then e1 else rsP id e1) (by split; exact .inl rfl; exact .inr rfl)
 rw [q1, q2]
 refine ⟨fun b hb hm => ?_, fun z hz b hb => ?_⟩
 ·have := (h1.wlt he1 hb).2
  simp only [List.mem_cons, List.not_mem_nil, or_false] at hm
  omega
 ·simp only [List.mem_cons, List.not_mem_nil, or_false] at hb
  rw [hb]
  exact (h1.rows x e1 he1).ros hz hr
end
section
variable {base : Nat} {w0 w w' : World} {p m : Nat} {L L' : Po} {F : Fo} {id : Int} {es : List Addr} {e : Ps}
theorem ptR_val {v : Value} {y : DataW Unit × List MemPlace} (h : ptR v = some y) : ∃ c, v = ptv c := by
 unfold ptR at h
 split at h
 ·exact ⟨none, rfl⟩
 ·rename_i g
  exact ⟨some g, rfl⟩
 ·cases h
theorem pmp_rsL (id : Int) (left : Int → Bool) (L : Po) : pmp (rsL id left L) = pmp L := by
 rw [pmp, rsL, pmp, List.map_map]
 refine List.map_congr_left fun x _ => ?_
 simp only [Function.comp]
 split
 ·rfl
 ·rw [rsP_g]
structure Dp (base : Nat) (w1 : World) (p m : Nat) (L1 : Po) (D : DataW Unit) (id : Int) (r : Nat) (left : Lit → Bool) (cnt : Nat) (wr : World) : Prop where
 rg : wr.ranges Tryz.prog 3 ptR m r L1.length D left cnt
 pf : PfR base w1 p m L1 (pab (rsL id (fun x => left (.int .i64 x)) L1)) wr (rsL id (fun x => left (.int .i64 x)) L1)
 lo : w1.heap.size ≤ r
theorem same_int (x y : Int) : (Lit.int .i64 x).sameKey (.int .i64 y) = (x == y) := by
 rw [Bool.eq_iff_iff]
 constructor
 ·intro h
  have := WideAt.sameKey_eq h
  simp only [Lit.int.injEq, true_and] at this
  simp [this]
 ·intro h
  have : x = y := by simpa using h
  rw [this]
  exact WideAt.sameKey_self trivial
theorem Dp.come {w1 : World} {L1 : Po} {D : DataW Unit} {r cnt : Nat} {left : Lit → Bool} {wr w2 : World} (h : Dp base w1 p m L1 D id r left cnt wr) (h1 : Pf base w1 p m L1) (hD : Rp ptd none D (pmp L1)) {x : Int} {c : Option Nat} {kl : Lit} {y : DataW Unit × List MemPlace} {cnt' : Nat}
  (hk : keyOf Tryz.prog 3 (.int .i64 x) = some kl) (hl : left kl = true) (hv : ptR (ptv c) = some y) (hat : ∀ zd, D.atKey kl zd = y.1) (hr : w2.ranges Tryz.prog 3 ptR m r L1.length D (fun z => left z && !z.sameKey kl) cnt') (hg : wr.grownBy w2 (some r)) :
  ∃ e1, gt L1 x = some e1 ∧ c = some e1.g ∧ w2.cell? ⟨e1.g, 30, none⟩ = some (.int .i64 e1.s.par) ∧ (∀ j, w2.frozen? ⟨e1.g, j, none⟩ = false) ∧ e1.g < w2.heap.size ∧
   (e1.s.par ≠ id → ∃ lf cn, Dp base w1 p m L1 D id r lf cn w2 ∧ cn = cnt') ∧
   (e1.s.par = id → ∃ lf cn, Dp base w1 p m L1 D id r lf cn (w2.setCell ⟨e1.g, 30, none⟩ (.int .i64 0)) ∧ cn = cnt') := by
 obtain rfl : kl = .int .i64 x := by
  obtain ⟨z, h2, h3, _⟩ := Maps.keyOf_int_inv Tryz.underlying3 hk
  cases h2
  exact h3
 have hpt : c = (gt (pmp L1) x).getD none := by
  have h2 := (hD x).2
  rw [hat] at h2
  have h3 : ptR (ptv c) = some (ptd c, []) := ptR_mk c
  rw [hv] at h3
  have h4 : y.1 = ptd c := by rw [Option.some.inj h3]
  rw [h4] at h2
  have h5 := ptR_mk c
  rw [h2] at h5
  have h6 := ptR_inv h5
  cases c with
  | none =>
   cases hq : (gt (pmp L1) x).getD none with
   | none => rfl
   | some q => rw [hq] at h6; cases h6
  | some c =>
   cases hq : (gt (pmp L1) x).getD none with
   | none => rw [hq] at h6; cases h6
   | some q =>
    rw [hq] at h6
    simp only [ptv, Value.pointer.injEq, Option.some.injEq, Addr.mk.injEq, and_true] at h6
    rw [h6]
 have hh : (gt (pmp L1) x).isSome = true := by
  have hown := h.rg.owns
  rw [← (hD x).1]
  have := hat .nil
  cases hc : Maps.has D (.int .i64 x) with
  | true => rfl
  | false =>
   obtain ⟨es, clock, since, seen, c0, _, F, _, hDD, _, _, _, hl1, hl2, _⟩ := h.rg
   obtain ⟨z, hz, hkz⟩ := hl2 _ hl
   have : Maps.has D (.int .i64 x) = true := by
    rw [hDD]
    exact List.any_eq_true.2 ⟨Go.WideElems.rg Tryz.prog 3 ptR z, mem_sorted.2 (List.mem_map.2 ⟨z, hz, rfl⟩), by rw [hkz]; exact WideAt.sameKey_self trivial⟩
   rw [this] at hc
   cases hc
 rw [gt_pmp] at hh hpt
 obtain ⟨e1, he1⟩ : ∃ e1, gt L1 x = some e1 := by
  cases hq : gt L1 x with
  | none => rw [hq] at hh; cases hh
  | some e1 => exact ⟨e1, rfl⟩
 rw [he1] at hpt
 have hgr : gt (rsL id (fun x => left (.int .i64 x)) L1) x = some e1 := by rw [gt_rsL, he1]; simp [hl]
 have h2 : Pf base w2 p m (rsL id (fun x => left (.int .i64 x)) L1) := h1.iter h.pf.pf hg h.lo
 have hP2 : PfR base w1 p m L1 (pab (rsL id (fun x => left (.int .i64 x)) L1)) w2 (rsL id (fun x => left (.int .i64 x)) L1) := ⟨h2, rfl, h.pf.kp.trans (kp_of_grown hg) (fun b hb hlt => by
  simp only [Option.toList_some, List.mem_cons, List.not_mem_nil, or_false] at hb
  have := h.lo
  omega), h.pf.new, h.pf.ofr⟩
 have hlf : (fun z : Int => left (.int .i64 z) && !(Lit.int .i64 z).sameKey (.int .i64 x)) = fun z => left (.int .i64 z) && !(z == x) := by
  funext z
  rw [same_int]
 refine ⟨e1, he1, hpt, h2.cell hgr, h2.fz hgr, (h2.wlt hgr (mem_wb.2 (.inl rfl))).2, fun hp => ⟨fun z => left z && !z.sameKey (.int .i64 x), cnt', ⟨hr, ?_, h.lo⟩, rfl⟩, fun hp => ⟨fun z => left z && !z.sameKey (.int .i64 x), cnt', ⟨?_, ?_, h.lo⟩, rfl⟩⟩
 ·have := rsL_same (id := id) h1.nd (left := fun z => left (.int .i64 z)) he1 hl hp
  rw [this] at hP2
  simp only [hlf]
  exact hP2
 ·refine hr.kept (row := some e1.g) ⟨rfl, rfl, rfl, by simp [World.setCell], fun k _ hk => Below.heap_setCell _ _ _ _ (fun e => hk (congrArg some e))⟩ ?_ ?_
  ·intro e2
   have := ((h1.sep x e1 he1).2 e1.g (mem_wb.2 (.inl rfl))).2.2.1
   simp only [Option.some.injEq] at e2
   exact this e2.symm
  ·intro e2
   have := (h1.wlt he1 (mem_wb.2 (.inl rfl))).2
   have := h.lo
   simp only [Option.some.injEq] at e2
   omega
 ·have hR := hP2.trans (h2.putPar hgr (Below.refl _ _) 0)
  have he2 : (⟨e1.g, { e1.s with par := 0 }⟩ : Ps) = rsP id e1 := by rw [rsP, if_pos hp]
  have h3 := rsL_st (id := id) h1.nd (left := fun z => left (.int .i64 z)) he1 hl
  rw [he2, h3] at hR
  simp only [hlf]
  exact hR.as (by rw [← hR.ab])
theorem fdrop_any (hE : Fe w es) (hB : 16 ≤ base) (h : Pf base w p m L) (hN : Nok L) (hL : Few L) (id : Int) (hi : Bt id) :
  Calls Tryz.prog 36 #[.pointer (some ⟨p, 0, none⟩), .int .i64 id] w fun e w' => e = .returned (erv es (drpE (pab L) id)) ∧ ∃ L', PfR base w p m L (drpF (pab L) id) w' L' := by
 have HF := hid (ffind_any hE h id hi)
 cases hq : gt L id with
 | none =>
  have HS : Hid (pto L id = none ∧ hasE (pab L) id = 5 ∧ drpE (pab L) id = 5) := ⟨by rw [pto, hq]; rfl, by rw [hasE, gt_pab, hq]; rfl, by rw [drpE, gt_pab, hq]; rfl⟩
  have HX : Hid (∀ q, PfR base w p m L (drpF (pab L) id) (w.drewN q) L) := fun q => (PfR.refl h (below_drewN (Below.refl _ _) q)).as (by rw [drpF, gt_pab, hq]; rfl)
  rw [HS.out.1, HS.out.2.1] at HF
  rw [HS.out.2.2]
  clear hq h hE HS hN hL
  go_enter Tryz.func36, Tryz.ntmps36
  go_wp2_with fail
  refine HF.out.mono ?_
  rintro e w1 ⟨rfl, q1, rfl⟩
  rw [ptv_none, erv_succ]
  go_wp2
  go_ret
  exact ⟨rfl, _, HX.out q1⟩
 | some e =>
  have HS : Hid (pto L id = some e.g ∧ hasE (pab L) id = 0 ∧ drpE (pab L) id = 0) := ⟨by rw [pto, hq]; rfl, by rw [hasE, gt_pab, hq]; rfl, by rw [drpE, gt_pab, hq]; rfl⟩
  have HLV : Hid (∀ q, Calls Tryz.prog 77 #[.pointer (some ⟨p, 0, none⟩), .int .i64 id, .pointer (some ⟨e.g, 0, none⟩)] (w.drewN q) fun e' w' => e' = .returned undef ∧ ∃ L', PfR base w p m L (unsF (pab L) id) w' L') := fun q =>
    (fleave_any (hE.drewN q) hB (h.drewN q) hN hL hq).mono fun e' w' ⟨h1, L', hR⟩ => ⟨h1, L', (PfR.refl h (below_drewN (Below.refl _ _) q)).trans hR⟩
  have HQ : Hid ((gt L id).isSome = true) := by rw [Hid, hq]; rfl
  have HK := hid (kBt id hi)
  rw [HS.out.1, HS.out.2.1] at HF
  rw [HS.out.2.2]
  clear hq h hE HS hN hL
  go_enter Tryz.func36, Tryz.ntmps36
  go_wp2_with fail
  refine HF.out.mono ?_
  rintro e' w1 ⟨rfl, q1, rfl⟩
  rw [ptv_some, erv0]
  go_wp2_with fail
  refine (HLV.out q1).mono ?_
  rintro e' w1 ⟨rfl, L1, hR1⟩
  have HR1 := hid hR1
  obtain ⟨D, hown, hD⟩ := hR1.pf.own
  have HO := hid hown
  have HD := hid hD
  have c0 := hR1.pf.c0
  have l0 := hR1.pf.lt.1
  clear hR1 hown hD HLV HF
  go_wp2_with (at_range; refine wpList_range_own _ rfl (.tmp 25) 95 rfl 3 110 (Maps.int_keyed Tryz.underlying3) Tryz.underlying95 ptR m _ D rfl HO.out ?_; intro w2 hrg hg2 hs2)
  have HS : Hid (Dp base w1 p m L1 D id w1.heap.size (Maps.has D) (Maps.size D) w2) := by
   have hall : rsL id (fun x => Maps.has D (.int .i64 x)) L1 = L1 := rsL_all id (fun x hx => by
    rw [(HD.out x).1, gt_pmp]
    obtain ⟨e1, he1⟩ := Option.isSome_iff_exists.1 (gt_some.2 hx)
    rw [he1]
    rfl)
   refine ⟨hrg, ?_, Nat.le_refl _⟩
   rw [hall]
   exact PfR.refl HR1.out.pf ⟨hg2.os, hg2.tape, hg2.output, hg2.size, fun k hk => hg2.block k hk (by simp)⟩
  clear hrg hg2 hs2
  go_frame
  go_loopw [] (fun wr => ∃ lf cn, Dp base w1 p m L1 D id w1.heap.size lf cn wr) (fun wr => wr.rangeLeft m w1.heap.size)
  case atStart => exact ⟨_, _, HS.out⟩
  case round =>
   obtain ⟨lf, cn, hDp⟩ := hrel
   have HDP := hid hDp
   clear hDp HS
   go_wp2_with (at_next; refine wpList_next_ranges _ rfl (.tmp 26) rfl 3 (Maps.int_keyed Tryz.underlying3) ptR (Value.int .i64) ptv (fun key kl hkey => by obtain ⟨x, rfl, _⟩ := Maps.keyOf_int_inv Tryz.underlying3 hkey; exact ⟨x, rfl⟩) (fun v y hv => ptR_val hv) m w1.heap.size _ _ _ _ rfl HDP.out.rg ?_ ?_)
   ·intro hc0 hl0
    have HOW := hid HDP.out.rg.owns
    have c1 := HDP.out.pf.pf.c0
    have l1 := HDP.out.pf.pf.lt.1
    have HFIN : Hid (∀ W', W'.ownsMap Tryz.prog 3 ptR m L1.length (D.del (.int .i64 id)) → wr.mapTurned W' m → ∃ L', PfR base w p m L (drpF (pab L) id) W' L') := fun W' ho ht => by
     have hD2 : Rp ptd none D (pmp (rsL id (fun x => lf (.int .i64 x)) L1)) := by rw [pmp_rsL]; exact HD.out
     exact ⟨_, ((HR1.out.trans HDP.out.pf).trans (HDP.out.pf.pf.del hD2 ho ht)).as (drpF_rsL HQ.out HR1.out.ab (fun x _ => hl0 _))⟩
    clear hc0 hl0 HDP HR1 c0 l0
    go_wp2_with (at_delete; refine wpList_delete_own _ rfl (.tmp 43) (.tmp 44) 95 3 rfl 110 (Maps.int_keyed Tryz.underlying3) Tryz.underlying95 ptR m _ D rfl HOW.out _ _ rfl HK.out ?_; intro w4 o4 t4; have HX := hid (HFIN.out _ o4 t4); clear o4 t4)
    go_ret
    exact ⟨rfl, HX.out⟩
   ·intro x c kl y1 y2 w3 cnt3 hkx hlx hvx hat hrg3 hlt3 hg3 hs3 hen
    obtain ⟨e1, he1, rfl, c30, fz, lt3, hno, hyes⟩ := HDP.out.come HR1.out.pf HD.out (y := (y1, y2)) hkx hlx hvx hat hrg3 hg3
    have HLT : Hid (cnt3 < wr.rangeLeft m w1.heap.size) := by rw [Hid, HDP.out.rg.left_eq]; exact hlt3
    have HNO := hid hno
    have HYES := hid hyes
    rw [ptv_some] at hen ⊢
    clear he1 hkx hlx hvx hat hrg3 hlt3 hg3 hs3 hno hyes HDP c0 l0
    cases hp : (e1.s.par == id)
    ·obtain ⟨lf2, cn2, hd2, rfl⟩ := HNO.out (by simpa using hp)
     have HD2 := hid hd2
     clear hd2 HNO HYES
     go_wp2
     go_roundw
     case rel => exact ⟨_, _, HD2.out⟩
     case measure =>
      rw [HD2.out.rg.left_eq]
      exact HLT.out
    ·obtain ⟨lf2, cn2, hd2, rfl⟩ := HYES.out (by simpa using hp)
     have HD2 := hid hd2
     clear hd2 HNO HYES
     go_wp2
     go_roundw
     case rel => exact ⟨_, _, HD2.out⟩
     case measure =>
      rw [HD2.out.rg.left_eq]
      exact HLT.out
end
end Go.Proofs.YtkjempffidndeaaGreatDoor
