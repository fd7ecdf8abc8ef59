/- Lemmas that the proof leans on. -/
import Derived.Test.YtkjempffidndeaaGreatDoorB33
namespace Go.Proofs.YtkjempffidndeaaGreatDoor
open Go Go.RowKit
open List renaming getElem_toArray → lqA, getElem_cons_zero → lqB, getElem_cons_succ → lqC, setIfInBounds_toArray → lqD, set_cons_zero → lqE, set_cons_succ → lqF
set_option maxRecDepth 100000
set_option maxHeartbeats 4000000
section
variable {base : Nat} {X : List Nat} {w : World} {q : Nat} {v : Value} {L : Ro}
def comE (F : Fo) (id : Int) : Nat := match gt F id with
 | none => 5
 | some _ => 0
def CmR (base : Nat) (X : List Nat) (w : World) (q : Nat) (v : Value) (k : Nat) (r : Fo × List Int) (e : Ending) (w' : World) : Prop := ∃ v' L', e = .returned (.tuple #[v', .int .i64 (k : Nat)]) ∧ Df base X w' q v L' ∧ abs L' = r.1 ∧ Kp v.ownBlock.toList w w' ∧ w'.ownsRow w.heap.size 3 1 v' r.2.length (ic r.2)
theorem Df.comPe (h : Df base X w q v L) {wc : World} (hb : Below w.heap.size w wc) {P : Nat} {r : Sx} (hB : Bs wc P r) (okr : r.Ok wc) (hnr : r.New w.heap.size) (hP : w.heap.size ≤ P) {i g : Nat} {id : Int} {s : Sr} (hi : L[i]? = some (id, s)) (hg : v.ownBlock = some g) :
  Df base X (sto wc g (i * 33 + 3) sx0) q v (L.set i (id, peR sx0 s)) ∧ (L.set i (id, peR sx0 s))[i]? = some (id, peR sx0 s) ∧ Bs (sto wc g (i * 33 + 3) sx0) P r ∧ r.Ok (sto wc g (i * 33 + 3) sx0) ∧ Kp [g] w (sto wc g (i * 33 + 3) sx0) := by
 have hgl := (h.glt hg).2
 obtain ⟨D2, K2⟩ := (h.on hb).setPe hi hg sx0 (sx0_ok _) (fun P _ => off_sx0 P)
 exact ⟨D2, List.getElem?_set_self (List.getElem?_eq_some_iff.1 hi).1, ⟨hB.bk.kp K2 (by simp; omega)⟩, okr.kpo (off_new hnr hgl) K2, (kp_of_below hb _).trans K2 (fun k hk _ => hk)⟩
def cacR (r : Sx) (s : Sr) : Sr := { s with pe := sx0, ca := r }
def comR (r : Sx) (s : Sr) : Sr := { s with pe := sx0, ca := sx0, no := r }
theorem cacR_f {r : Sx} {s : Sr} (h : r.q = mrg s.ca.q s.pe.q) : (cacR r s).f = cacS s.f := by
 show Sf.mk _ _ _ r.q _ = _
 rw [h]
 rfl
theorem comR_f {r : Sx} {s : Sr} (h : r.q = apl s.no.q (mrg s.ca.q s.pe.q)) : (comR r s).f = comS s.f := by
 show Sf.mk _ _ _ _ r.q = _
 rw [h]
 rfl
theorem kw_lit (h : Df base X w q v L) (hX : ∀ P ∈ X, P < w.heap.size) (id : Int) : Kw base X q v w.heap.size (w.alloc (.cells #[.int .i64 id] 3)) L (.slice (some ⟨w.heap.size, 0, none⟩) 1 1) [id] :=
 ⟨h.on (bel_new _ _), ⟨rfl, .inr ⟨w.heap.size, 1, _, rfl, Nat.le_refl _, heap_alloc_new w _, Nat.le_refl _, by simp [maxLen], rfl, rfl⟩⟩, h.blk hX, (bel_new _ _).size, fun e he P hP => by
  cases hP
  exact off_olds (h.ok e he) (Nat.le_refl _)⟩
theorem rcommit_any (h : Df base X w q v L) (hX : ∀ P ∈ X, P < w.heap.size) (hI : Inv (abs L)) (hN : Nof (abs L)) {m : Nat} (hZ : Szf m (abs L)) (hm : m ≤ 900) (id : Int) :
  Calls Tryz.prog 55 #[.pointer (some ⟨q, 0, none⟩), .int .i64 id] w (CmR base X w q v (comE (abs L) id) (comF 41 (abs L) id)) := by
 have CS := hid (rs_any h id)
 cases hs : gt L id with
 | none =>
  have hs' : gt (abs L) id = none := by rw [gt_abs, hs]; rfl
  have HE : Hid (CmR base X w q v (comE (abs L) id) (comF 41 (abs L) id) (.returned (.tuple #[.slice none 0 0, .int .i64 5])) w) := by
   rw [comF_eq, comE, hs']
   exact ⟨_, L, rfl, h, rfl, Kp.refl _ _, World.ownsRow_nil _ _ _ _⟩
  have HN := hid hs
  clear h hX hI hN hZ hs hs'
  go_enter Tryz.func55, Tryz.ntmps55
  go_wp2_with fail
  refine CS.out.mono ?_
  rintro e w1 ⟨r, rfl, hr, rfl⟩
  obtain rfl := hr.no HN.out
  clear hr CS
  go_wp2
  go_ret2
  exact HE.out
 | some s =>
  have hs' : gt (abs L) id = some s.f := by rw [gt_abs, hs]; rfl
  have hok := h.ok _ (mem_gt hs)
  obtain ⟨l1, l2, l3⟩ := zs_len (hZ _ _ hs') hok hm
  have HL1 := hid l1
  have HL2 := hid l2
  have HL3 := hid l3
  have HOK := hid hok
  have HD := hid h
  have HX := hid hX
  have hnod := nod_abs hI
  have HE0 : Hid (comE (abs L) id = 0) := by rw [Hid, comE, hs']
  have HF1 : Hid (sy (abs L) id = true → comF 41 (abs L) id = (upd (abs L) id cacS, [])) := fun e => by rw [comF_eq, hs']; exact if_pos e
  have HF0 : Hid (sy (abs L) id = false → comF 41 (abs L) id = kds 41 (upd (abs L) id comS) id [id]) := fun e => by rw [comF_eq, hs']; exact if_neg (by rw [e]; decide)
  have HRL : Hid (∀ (u : World) (r : Sx), r.Ok u → r.q = mrg s.ca.q s.pe.q → s.Ok u → r.Len 1000) := fun u r okr hq ok => by
   have hz := (hZ _ _ hs').cacs
   rw [← cacR_f hq] at hz
   exact (zs_len (s := cacR r s) hz ⟨sx0_ok u, okr, ok.no⟩ hm).2.1
  have HA1 : Hid (∀ (i : Nat) (r : Sx), L[i]? = some (id, s) → r.q = mrg s.ca.q s.pe.q → abs (L.set i (id, cacR r s)) = upd (abs L) id cacS) := fun i r hi hq => by
   rw [← st_set hnod hi]
   exact abs_upd hs cacS _ (cacR_f hq)
  have HA2 : Hid (∀ (i : Nat) (r : Sx), L[i]? = some (id, s) → r.q = apl s.no.q (mrg s.ca.q s.pe.q) → abs (L.set i (id, comR r s)) = upd (abs L) id comS) := fun i r hi hq => by
   rw [← st_set hnod hi]
   exact abs_upd hs comS _ (comR_f hq)
  have HSY : Hid (∀ (i : Nat) (u : World), L[i]? = some (id, s) → Df base X u q v (L.set i (id, peR sx0 s)) → Calls Tryz.prog 102 #[.pointer (some ⟨q, 0, none⟩), .int .i64 id] u fun e w' => e = .returned (.bool (sy (abs L) id)) ∧ w' = u) := fun i u hi hD => by
   have ha : abs (L.set i (id, peR sx0 s)) = upd (abs L) id (fun t => { t with pe := sq0 }) := by
    rw [← st_set hnod hi]
    exact abs_upd hs _ _ rfl
   have ht := tre_upd (abs L) id (fun t => { t with pe := sq0 }) (fun _ => ⟨rfl, rfl⟩)
   have := rsynced_any hD (by rw [ha]; exact ht.acy hI.acy) _ id (Nat.le_refl _)
   rw [ha, ← ht.sy id] at this
   exact this
  have HKD : Hid (∀ (i : Nat) (u : World) (r : Sx), L[i]? = some (id, s) → r.q = apl s.no.q (mrg s.ca.q s.pe.q) → w.heap.size ≤ u.heap.size → Df base X u q v (L.set i (id, comR r s)) → Calls Tryz.prog 104 #[.pointer (some ⟨q, 0, none⟩), .slice (some ⟨u.heap.size, 0, none⟩) 1 1, .int .i64 id] (u.alloc (.cells #[.int .i64 id] 3)) (KdR base X q v u.heap.size (u.alloc (.cells #[.int .i64 id] 3)) (.slice (some ⟨u.heap.size, 0, none⟩) 1 1) (kds 41 (upd (abs L) id comS) id [id]))) := fun i u r hi hq hw hD => by
   have ha := HA2.out i r hi hq
   have hg : gt (L.set i (id, comR r s)) id = some (comR r s) := by
    rw [← st_set hnod hi, gt_st, if_pos rfl, hs]
    rfl
   have := rkids_any hm 40 id _ _ _ _ _ (kw_lit hD (fun P hP => Nat.lt_of_lt_of_le (hX P hP) hw) id) (by rw [ha]; exact hI.coms id) (by rw [ha]; exact hN.turn _ _ fun s _ hs => hs.coms) (by rw [ha]; exact hZ.turn (Nat.le_refl m) _ _ fun s hs => hs.coms) hg (by omega) (by omega) (by simp)
   rw [ha] at this
   exact this
  have HN := hid hs
  clear h hX hI hN hZ hs hs' hok l1 l2 l3 hnod
  go_enter Tryz.func55, Tryz.ntmps55
  go_wp2_with fail
  refine CS.out.mono ?_
  rintro e w1 ⟨r, rfl, hr, hw1⟩
  obtain rfl : w = w1 := hw1.symm
  obtain ⟨g, i, rfl, hg, hi⟩ := hr.ys HN.out
  have HG := hid hg
  have HI := hid hi
  clear hr CS hg hi hw1
  go_upto_region 4 with fail
  go_cut [7] (fun p wc => ∃ (P : Nat) (r : Sx), p = .pointer (some ⟨P, 0, none⟩) ∧ Bs wc P r ∧ r.Ok wc ∧ r.New w.heap.size ∧ r.q = mrg s.ca.q s.pe.q ∧ w.heap.size ≤ P ∧ RowKit.Below w.heap.size w wc)
  case first =>
   refine wp_region_gate_drew (g := 10) (S := fun uu => RowKit.Below w.heap.size w uu) (by kernel_rfl) ?hh (fun hHeld => ?_)
   case hh => exact ((Below.refl _ _).drew)
   generalize World.drew _ = W0 at hHeld ⊢
   try dsimp only at hHeld
   refine wpAnyG_take (i := 0) (v := ?_) rfl (by kernel_rfl) (by kernel_rfl) (by kernel_rfl) (by kernel_rfl) (fun _ _ _ h => h) (Or.inl ⟨by kernel_rfl, ?hy0⟩) (by assumption) ?_
   case hy0 => (intro wI hSw; (try dsimp only at hSw); go_simp; try with_reducible rfl)
   try simp only [Act.put, lqA, lqB, lqD, lqE, lqF]
   refine wpAnyG_take (i := 1) (v := ?_) rfl (by kernel_rfl) (by kernel_rfl) (by kernel_rfl) (by kernel_rfl) (fun _ _ _ h => h) (Or.inl ⟨by kernel_rfl, ?hy1⟩) (by assumption) ?_
   case hy1 => (intro wI hSw; (try dsimp only at hSw); go_simp; try with_reducible rfl)
   try simp only [Act.put, lqA, lqB, lqC, lqD, lqE, lqF]
   refine wpAnyG_take (i := 2) (v := ?_) rfl (by kernel_rfl) (by kernel_rfl) (by kernel_rfl) (by kernel_rfl) (fun _ _ _ h => h) (Or.inl ⟨by kernel_rfl, ?hy2⟩) (by assumption) ?_
   case hy2 => (intro wI hSw; (try dsimp only at hSw); go_simp; try with_reducible rfl)
   try simp only [Act.put, lqA, lqB, lqC, lqD, lqE, lqF]
   refine wpAnyG_take (i := 3) (v := ?_) rfl (by kernel_rfl) (by kernel_rfl) (by kernel_rfl) (by kernel_rfl) (fun _ _ _ h => h) (Or.inl ⟨by kernel_rfl, ?hy3⟩) (by assumption) ?_
   case hy3 => (intro wI hSw; (try dsimp only at hSw); obtain ⟨k0, k1, k2, k3, k4, k5, k6, k7, k8, k9⟩ := (HD.out.on hSw).scCa HI.out HG.out; go_simp; try with_reducible rfl)
   try simp only [Act.put, lqA, lqB, lqC, lqD, lqE, lqF]
   refine wpAnyG_take (i := 4) (v := ?_) rfl (by kernel_rfl) (by kernel_rfl) (by kernel_rfl) (by kernel_rfl) (fun _ _ _ h => h) (Or.inl ⟨by kernel_rfl, ?hy4⟩) (by assumption) ?_
   case hy4 => (intro wI hSw; (try dsimp only at hSw); go_simp; try with_reducible rfl)
   try simp only [Act.put, lqA, lqB, lqC, lqD, lqE, lqF]
   refine wpAnyG_take (i := 5) (v := ?_) rfl (by kernel_rfl) (by kernel_rfl) (by kernel_rfl) (by kernel_rfl) (fun _ _ _ h => h) (Or.inl ⟨by kernel_rfl, ?hy5⟩) (by assumption) ?_
   case hy5 => (intro wI hSw; (try dsimp only at hSw); go_simp; try with_reducible rfl)
   try simp only [Act.put, lqA, lqB, lqC, lqD, lqE, lqF]
   refine wpAnyG_take (i := 6) (v := ?_) rfl (by kernel_rfl) (by kernel_rfl) (by kernel_rfl) (by kernel_rfl) (fun _ _ _ h => h) (Or.inl ⟨by kernel_rfl, ?hy6⟩) (by assumption) ?_
   case hy6 => (intro wI hSw; (try dsimp only at hSw); go_simp; try with_reducible rfl)
   try simp only [Act.put, lqA, lqB, lqC, lqD, lqE, lqF]
   refine wpAnyG_take (i := 7) (v := ?_) rfl (by kernel_rfl) (by kernel_rfl) (by kernel_rfl) (by kernel_rfl) (fun _ _ _ h => h) (Or.inl ⟨by kernel_rfl, ?hy7⟩) (by assumption) ?_
   case hy7 => (intro wI hSw; (try dsimp only at hSw); obtain ⟨k0, k1, k2, k3, k4, k5, k6, k7, k8, k9⟩ := (HD.out.on hSw).scPe HI.out HG.out; go_simp; try with_reducible rfl)
   try simp only [Act.put, lqA, lqB, lqC, lqD, lqE, lqF]
   refine wpAnyG_ready (rs := [8, 9]) (by kernel_rfl) (by simp) ?_
   refine AllReadyG.cons rfl (fun K hK => ?_) ?_
   ·go_simp
    go_wp2_with fail
    refine (rmerge_any s.ca s.pe _ (HOK.out.ca.on hHeld) (HOK.out.pe.on hHeld) HL2.out HL1.out).mono ?_
    rintro e W8 ⟨r, rfl, okr, hnr, hqr, hb⟩
    have OKR := hid okr
    have HNR := hid (hnr.low hHeld.size)
    have HQR := hid hqr
    try have FR := hid (off_new hnr HP.out.lt)
    try replace HP := hid (HP.out.on hb)
    replace hHeld := Below.on hHeld hb
    refine hK.out _ _ hHeld (fun _ => ?_)
    clear hK K hb okr hnr hqr
    try simp only [Act.put, lqA, lqB, lqC, lqD, lqE, lqF]
    refine wpAnyG_ready (rs := [9]) (by kernel_rfl) (by simp) ?_
    refine AllReadyG.cons rfl (fun K hK => ?_) AllReadyG.nil
    have hb := bel_new W8 (.cells #[.bool false, .int .i64 0, .slice none 0 0, .slice none 0 0, .bool false, .bool false, .slice none 0 0, .bool false, .slice none 0 0, .slice none 0 0] 72)
    have hM := Below.on hHeld hb
    have hk : Bs _ W8.heap.size sx0 := bs_new W8 sx0
    have hP0 := hHeld.size
    try have FR := hid (off_old OKR.out (Nat.le_refl W8.heap.size))
    try replace OKR := hid (OKR.out.on hb)
    go_simp
    refine hK.out _ _ hM (fun _ => ?_)
    clear hK K hHeld
    obtain ⟨PP, hPP⟩ : ∃ P, P = W8.heap.size := ⟨_, rfl⟩
    rw [← hPP] at hk hP0 ⊢
    try rw [← hPP] at FR
    have HP := hid hk
    have HPZ := hid hP0
    clear hPP hk hP0
    change Hid (Bs (W8.alloc (.cells #[.bool false, .int .i64 0, .slice none 0 0, .slice none 0 0, .bool false, .bool false, .slice none 0 0, .bool false, .slice none 0 0, .slice none 0 0] 72)) PP sx0) at HP
    generalize W8.alloc (.cells #[.bool false, .int .i64 0, .slice none 0 0, .slice none 0 0, .bool false, .bool false, .slice none 0 0, .bool false, .slice none 0 0, .slice none 0 0] 72) = W9 at *
    have hHeld := hM
    clear hM hb
    try simp only [Act.put, lqA, lqB, lqC, lqD, lqE, lqF]
    have hG := hHeld
    clear hHeld
    have hHeld : True := trivial
    refine wpAnyG_gateOp rfl (by kernel_rfl) (fun K hK => ?_)
    obtain ⟨za, zb, zc, zd, ze, zf, zg, zh, zi, zj⟩ := HP.out.all
    dsimp only [sx0, sl0] at za zb zc zd ze zf zg zh zi zj
    have fz := HP.out.fz
    have hQ := HP.out.stz r
    have hO := OKR.out.kpo FR.out (kp_stz W9 PP r)
    have hL := below_stz hG HPZ.out r
    go_simp
    refine hK.out _ _ trivial (fun _ => ?_)
    clear hK K
    try simp only [Act.put, lqA, lqB, lqC, lqD, lqE, lqF]
    refine wpAnyH_done (by kernel_rfl) ?_ _
    go_wp2_with fail
    go_meet
    exact ⟨PP, r, rfl, hQ, hO, HNR.out, HQR.out, HPZ.out, hL⟩
   refine AllReadyG.cons rfl (fun K hK => ?_) ?_
   ·have hb := bel_new W0 (.cells #[.bool false, .int .i64 0, .slice none 0 0, .slice none 0 0, .bool false, .bool false, .slice none 0 0, .bool false, .slice none 0 0, .slice none 0 0] 72)
    have hM := Below.on hHeld hb
    have hk : Bs _ W0.heap.size sx0 := bs_new W0 sx0
    have hP0 := hHeld.size
    try have FR := hid (off_old OKR.out (Nat.le_refl W0.heap.size))
    try replace OKR := hid (OKR.out.on hb)
    go_simp
    refine hK.out _ _ hM (fun _ => ?_)
    clear hK K hHeld
    obtain ⟨PP, hPP⟩ : ∃ P, P = W0.heap.size := ⟨_, rfl⟩
    rw [← hPP] at hk hP0 ⊢
    try rw [← hPP] at FR
    have HP := hid hk
    have HPZ := hid hP0
    clear hPP hk hP0
    change Hid (Bs (W0.alloc (.cells #[.bool false, .int .i64 0, .slice none 0 0, .slice none 0 0, .bool false, .bool false, .slice none 0 0, .bool false, .slice none 0 0, .slice none 0 0] 72)) PP sx0) at HP
    generalize W0.alloc (.cells #[.bool false, .int .i64 0, .slice none 0 0, .slice none 0 0, .bool false, .bool false, .slice none 0 0, .bool false, .slice none 0 0, .slice none 0 0] 72) = W9 at *
    have hHeld := hM
    clear hM hb
    try simp only [Act.put, lqA, lqB, lqC, lqD, lqE, lqF]
    refine wpAnyG_ready (rs := [8]) (by kernel_rfl) (by simp) ?_
    refine AllReadyG.cons rfl (fun K hK => ?_) AllReadyG.nil
    go_simp
    go_wp2_with fail
    refine (rmerge_any s.ca s.pe _ (HOK.out.ca.on hHeld) (HOK.out.pe.on hHeld) HL2.out HL1.out).mono ?_
    rintro e W8 ⟨r, rfl, okr, hnr, hqr, hb⟩
    have OKR := hid okr
    have HNR := hid (hnr.low hHeld.size)
    have HQR := hid hqr
    try have FR := hid (off_new hnr HP.out.lt)
    try replace HP := hid (HP.out.on hb)
    replace hHeld := Below.on hHeld hb
    refine hK.out _ _ hHeld (fun _ => ?_)
    clear hK K hb okr hnr hqr
    try simp only [Act.put, lqA, lqB, lqC, lqD, lqE, lqF]
    have hG := hHeld
    clear hHeld
    have hHeld : True := trivial
    refine wpAnyG_gateOp rfl (by kernel_rfl) (fun K hK => ?_)
    obtain ⟨za, zb, zc, zd, ze, zf, zg, zh, zi, zj⟩ := HP.out.all
    dsimp only [sx0, sl0] at za zb zc zd ze zf zg zh zi zj
    have fz := HP.out.fz
    have hQ := HP.out.stz r
    have hO := OKR.out.kpo FR.out (kp_stz W8 PP r)
    have hL := below_stz hG HPZ.out r
    go_simp
    refine hK.out _ _ trivial (fun _ => ?_)
    clear hK K
    try simp only [Act.put, lqA, lqB, lqC, lqD, lqE, lqF]
    refine wpAnyH_done (by kernel_rfl) ?_ _
    go_wp2_with fail
    go_meet
    exact ⟨PP, r, rfl, hQ, hO, HNR.out, HQR.out, HPZ.out, hL⟩
   exact AllReadyG.nil
  case rest =>
   obtain ⟨P, r, rfl, hB, okr, hnr, hqr, hP, hb⟩ := hcut
   obtain ⟨D2, hi2, hB2, ok2, hk2⟩ := HD.out.comPe hb hB okr hnr hP HI.out HG.out
   obtain ⟨k0, k1, k2, k3, k4, k5, k6, k7, k8, k9⟩ := (HD.out.on hb).scPe HI.out HG.out
   have fz := (HD.out.on hb).fz HG.out
   obtain ⟨W2, hW2⟩ : ∃ W2, W2 = (((((((((wc.setCell ⟨g, i * 33 + 3, none⟩ (.bool false)).setCell ⟨g, i * 33 + 3 + 1, none⟩ (.int .i64 0)).setCell ⟨g, i * 33 + 3 + 2, none⟩ (.slice none 0 0)).setCell ⟨g, i * 33 + 3 + 3, none⟩ (.slice none 0 0)).setCell ⟨g, i * 33 + 3 + 4, none⟩ (.bool false)).setCell ⟨g, i * 33 + 3 + 5, none⟩ (.bool false)).setCell ⟨g, i * 33 + 3 + 6, none⟩ (.slice none 0 0)).setCell ⟨g, i * 33 + 3 + 7, none⟩ (.bool false)).setCell ⟨g, i * 33 + 3 + 8, none⟩ (.slice none 0 0)).setCell ⟨g, i * 33 + 3 + 9, none⟩ (.slice none 0 0) := ⟨_, rfl⟩
   replace D2 : Df base X W2 q v (L.set i (id, peR sx0 s)) := by rw [hW2]; exact D2
   replace hB2 : Bs W2 P r := by rw [hW2]; exact hB2
   replace ok2 : r.Ok W2 := by rw [hW2]; exact ok2
   replace hk2 : Kp [g] w W2 := by rw [hW2]; exact hk2
   have CSY := hid (HSY.out i W2 HI.out D2)
   have HRLN := hid (HRL.out _ r okr hqr (HOK.out.on hb))
   have HQR := hid hqr
   have HD2 := hid D2
   have HI2 := hid hi2
   have HB2 := hid hB2
   have HO2 := hid ok2
   have HK2 := hid hk2
   have HNR := hid hnr
   have HPL := hid hP
   clear D2 hi2 hB2 ok2 hk2 hnr hqr hB okr hP hb
   go_upto_region 6 with fail
   rw [← hW2]
   clear hW2 fz k0 k1 k2 k3 k4 k5 k6 k7 k8 k9
   go_wp2_with fail
   refine CSY.out.mono ?_
   rintro e w3 ⟨rfl, hw3⟩
   obtain rfl : W2 = w3 := hw3.symm
   clear hw3 CSY
   obtain ⟨k0, k1, k2, k3, k4, k5, k6, k7, k8, k9⟩ := HD2.out.scCa HI2.out HG.out
   have fz := HD2.out.fz HG.out
   cases hsy : sy (abs L) id with
   | true =>
    obtain ⟨D3, K3⟩ := HD2.out.setCa HI2.out HG.out r HO2.out (fun Q hQ => off_new HNR.out (HD.out.blk HX.out Q hQ))
    rw [List.set_set] at D3
    have HE : Hid (CmR base X w q v (comE (abs L) id) (comF 41 (abs L) id) (.returned (.tuple #[.slice none 0 0, .int .i64 0])) (sto W2 g (i * 33 + 13) r)) := by
     rw [HE0.out, HF1.out hsy]
     exact ⟨_, _, rfl, D3, HA1.out i r HI.out HQR.out, kp_own HG.out (HK2.out.trans K3 (fun k hk _ => hk)), World.ownsRow_nil _ _ _ _⟩
    obtain ⟨b0, b1, b2, b3, b4, b5, b6, b7, b8, b9⟩ := HB2.out.all
    clear D3 K3
    go_wp2
    go_ret2
    exact HE.out
   | false =>
    obtain ⟨D3, K3⟩ := HD2.out.setCa HI2.out HG.out sx0 (sx0_ok _) (fun P _ => off_sx0 P)
    rw [List.set_set] at D3
    obtain ⟨W3, hW3⟩ : ∃ W3, W3 = (((((((((W2.setCell ⟨g, i * 33 + 13, none⟩ (.bool false)).setCell ⟨g, i * 33 + 13 + 1, none⟩ (.int .i64 0)).setCell ⟨g, i * 33 + 13 + 2, none⟩ (.slice none 0 0)).setCell ⟨g, i * 33 + 13 + 3, none⟩ (.slice none 0 0)).setCell ⟨g, i * 33 + 13 + 4, none⟩ (.bool false)).setCell ⟨g, i * 33 + 13 + 5, none⟩ (.bool false)).setCell ⟨g, i * 33 + 13 + 6, none⟩ (.slice none 0 0)).setCell ⟨g, i * 33 + 13 + 7, none⟩ (.bool false)).setCell ⟨g, i * 33 + 13 + 8, none⟩ (.slice none 0 0)).setCell ⟨g, i * 33 + 13 + 9, none⟩ (.slice none 0 0) := ⟨_, rfl⟩
    replace D3 : Df base X W3 q v (L.set i (id, caR sx0 (peR sx0 s))) := by rw [hW3]; exact D3
    replace K3 : Kp [g] W2 W3 := by rw [hW3]; exact K3
    have hgl := (HD.out.glt HG.out).2
    have HB3 : Hid (Bs W3 P r) := ⟨HB2.out.bk.kp K3 (by simp; have := HPL.out; omega)⟩
    have HO3 : Hid (r.Ok W3) := HO2.out.kpo (off_new HNR.out hgl) K3
    have HK3 := hid (HK2.out.trans K3 (fun k hk _ => hk))
    have hi3 : (L.set i (id, caR sx0 (peR sx0 s)))[i]? = some (id, caR sx0 (peR sx0 s)) := List.getElem?_set_self (List.getElem?_eq_some_iff.1 HI.out).1
    have HI3 := hid hi3
    have HD3 := hid D3
    have HSZ := hid HK3.out.size
    have hno3 : s.no.Ok W3 := (D3.ok _ (Df.mem hi3)).no
    have HNO := hid hno3
    have HKF := hid (HF0.out hsy)
    clear D3 K3 hi3 hno3 hsy
    go_upto_region 10 with fail
    rw [← hW3]
    clear hW3 fz k0 k1 k2 k3 k4 k5 k6 k7 k8 k9
    refine wp_region_gate_drew (g := 9) (S := fun uu => RowKit.Below W3.heap.size W3 uu) (by kernel_rfl) ?hh (fun hHeld => ?_)
    case hh => exact ((Below.refl _ _).drew)
    generalize World.drew _ = W0 at hHeld ⊢
    try dsimp only at hHeld
    refine wpAnyG_takeFree (i := 0) (v := ?_) rfl (by kernel_rfl) (by kernel_rfl) (by kernel_rfl) (by kernel_rfl) (fun _ _ _ h => h) (Or.inl ⟨by kernel_rfl, ?hy0⟩) (by assumption) ?_
    case hy0 => (intro wI _; go_simp; try with_reducible rfl)
    try simp only [Act.put, lqA, lqB, lqD, lqE, lqF]
    refine wpAnyG_take (i := 1) (v := ?_) rfl (by kernel_rfl) (by kernel_rfl) (by kernel_rfl) (by kernel_rfl) (fun _ _ _ h => h) (Or.inl ⟨by kernel_rfl, ?hy1⟩) (by assumption) ?_
    case hy1 => (intro wI hSw; (try dsimp only at hSw); go_simp; try with_reducible rfl)
    try simp only [Act.put, lqA, lqB, lqC, lqD, lqE, lqF]
    refine wpAnyG_take (i := 2) (v := ?_) rfl (by kernel_rfl) (by kernel_rfl) (by kernel_rfl) (by kernel_rfl) (fun _ _ _ h => h) (Or.inl ⟨by kernel_rfl, ?hy2⟩) (by assumption) ?_
    case hy2 => (intro wI hSw; (try dsimp only at hSw); go_simp; try with_reducible rfl)
    try simp only [Act.put, lqA, lqB, lqC, lqD, lqE, lqF]
    refine wpAnyG_take (i := 3) (v := ?_) rfl (by kernel_rfl) (by kernel_rfl) (by kernel_rfl) (by kernel_rfl) (fun _ _ _ h => h) (Or.inl ⟨by kernel_rfl, ?hy3⟩) (by assumption) ?_
    case hy3 => (intro wI hSw; (try dsimp only at hSw); go_simp; try with_reducible rfl)
    try simp only [Act.put, lqA, lqB, lqC, lqD, lqE, lqF]
    refine wpAnyG_take (i := 4) (v := ?_) rfl (by kernel_rfl) (by kernel_rfl) (by kernel_rfl) (by kernel_rfl) (fun _ _ _ h => h) (Or.inl ⟨by kernel_rfl, ?hy4⟩) (by assumption) ?_
    case hy4 => (intro wI hSw; (try dsimp only at hSw); obtain ⟨k0, k1, k2, k3, k4, k5, k6, k7, k8, k9⟩ := (HD3.out.on hSw).scNo HI3.out HG.out; go_simp; try with_reducible rfl)
    try simp only [Act.put, lqA, lqB, lqC, lqD, lqE, lqF]
    refine wpAnyG_take (i := 5) (v := ?_) rfl (by kernel_rfl) (by kernel_rfl) (by kernel_rfl) (by kernel_rfl) (fun _ _ _ h => h) (Or.inl ⟨by kernel_rfl, ?hy5⟩) (by assumption) ?_
    case hy5 => (intro wI hSw; (try dsimp only at hSw); obtain ⟨k0, k1, k2, k3, k4, k5, k6, k7, k8, k9⟩ := (HB3.out.on hSw).all; go_simp; try with_reducible rfl)
    try simp only [Act.put, lqA, lqB, lqC, lqD, lqE, lqF]
    refine wpAnyG_ready (rs := [6]) (by kernel_rfl) (by simp) ?_
    refine AllReadyG.cons rfl (fun K hK => ?_) AllReadyG.nil
    go_simp
    go_wp2_with fail
    refine (rapply_any s.no r _ (HNO.out.on hHeld) (HO3.out.on hHeld) HL3.out HRLN.out).mono ?_
    rintro e W6 ⟨r2, rfl, okr, hnr, hqr, hb⟩
    have OKR := hid okr
    have HNR2 := hid (hnr.low (Nat.le_trans HSZ.out hHeld.size))
    have HQR2 := hid hqr
    replace hHeld := Below.on hHeld hb
    refine hK.out _ _ hHeld (fun _ => ?_)
    clear hK K hb okr hnr hqr
    try simp only [Act.put, lqA, lqB, lqC, lqD, lqE, lqF]
    refine wpAnyG_take (i := 7) (v := ?_) rfl (by kernel_rfl) (by kernel_rfl) (by kernel_rfl) (by kernel_rfl) (fun _ _ _ h => h) (Or.inl ⟨by kernel_rfl, ?hy7⟩) (by assumption) ?_
    case hy7 => (intro wI hSw; (try dsimp only at hSw); go_simp; try with_reducible rfl)
    try simp only [Act.put, lqA, lqB, lqC, lqD, lqE, lqF]
    refine wpAnyG_take (i := 8) (v := ?_) rfl (by kernel_rfl) (by kernel_rfl) (by kernel_rfl) (by kernel_rfl) (fun _ _ _ h => h) (Or.inl ⟨by kernel_rfl, ?hy8⟩) (by assumption) ?_
    case hy8 => (intro wI hSw; (try dsimp only at hSw); go_simp; try with_reducible rfl)
    try simp only [Act.put, lqA, lqB, lqC, lqD, lqE, lqF]
    have hG := hHeld
    clear hHeld
    have hHeld : True := trivial
    refine wpAnyG_gateOp rfl (by kernel_rfl) (fun K hK => ?_)
    have hD := HD3.out.on hG
    obtain ⟨k0, k1, k2, k3, k4, k5, k6, k7, k8, k9⟩ := hD.scNo HI3.out HG.out
    have fz := hD.fz HG.out
    have hN := hD.setNo HI3.out HG.out r2 OKR.out (fun Q hQ => off_new HNR2.out (HD.out.blk HX.out Q hQ))
    have hKG := HK3.out.trans (kp_of_below hG [g]) (fun k hk _ => hk)
    go_simp
    refine hK.out _ _ trivial (fun _ => ?_)
    clear hK K k0 k1 k2 k3 k4 k5 k6 k7 k8 k9 fz hD
    change wpAnyH _ _ _ _ _ _ _ _ (sto W6 g (i * 33 + 23) r2)
    generalize sto W6 g (i * 33 + 23) r2 = W9 at *
    try simp only [Act.put, lqA, lqB, lqC, lqD, lqE, lqF]
    refine wpAnyH_done (by kernel_rfl) ?_ _
    obtain ⟨D4, K4⟩ := hN
    rw [List.set_set] at D4
    have HD4 : Hid (Df base X W9 q v (L.set i (id, comR r2 s))) := D4
    have HK4 := hid (hKG.trans K4 (fun k hk _ => hk))
    have hq2 : r2.q = apl s.no.q (mrg s.ca.q s.pe.q) := by rw [HQR2.out, HQR.out]
    have CKD := hid (HKD.out i W9 r2 HI.out hq2 HK4.out.size HD4.out)
    clear D4 K4 hKG hq2
    go_wp2_with fail
    refine CKD.out.mono ?_
    rintro e w9 ⟨v9, L9, rfl, hK9, ha9, hb9⟩
    have HE : Hid (CmR base X w q v (comE (abs L) id) (comF 41 (abs L) id) (.returned (.tuple #[v9, .int .i64 0])) w9) := by
     rw [HE0.out, HKF.out]
     refine ⟨_, _, rfl, hK9.df, ha9, (kp_own HG.out HK4.out).trans ((kp_of_below (bel_new W9 _) (v.ownBlock.toList ++ (Value.slice (some ⟨W9.heap.size, 0, none⟩) 1 1).ownBlock.toList)).trans hb9.kp (fun k hk _ => hk)) (fun k hk hlt => ?_), ownsRow_low hK9.row HK4.out.size⟩
     rcases List.mem_append.1 hk with hk | hk
     ·exact hk
     ·have h1 : k = W9.heap.size := by simpa [Value.ownBlock] using hk
      have := HK4.out.size
      omega
    clear hK9 ha9 hb9 CKD
    go_wp2
    go_ret2
    exact HE.out
end
section
variable {base : Nat} {X : List Nat} {w : World} {q : Nat} {v : Value} {L : Ro} {i g : Nat} {id : Int} {s : Sr}
def attR (z : Int) (s : Sr) : Sr := { s with pe := { s.pe with at_ := true, buf := z } }
def dmgR (l : Sl) (s : Sr) : Sr := { s with pe := { s.pe with dm := l } }
def frmR (l : Sl) (s : Sr) : Sr := { s with pe := { s.pe with fr := l } }
def inpR (a : Bool) (l : Sl) (s : Sr) : Sr := { s with pe := { s.pe with inp := true, all := a, rg := l } }
def takR (s : Sr) : Sr := { s with no := { s.no with fr := sl0 } }
theorem attR_f (z : Int) (s : Sr) : (attR z s).f = attS z s.f := rfl
theorem dmgR_f {l : Sl} {r : List Int} {s : Sr} (h : l.l = s.pe.dm.l ++ [r]) : (dmgR l s).f = dmgS r s.f := by
 show Sf.mk _ _ ⟨_, _, l.l, _, _, _, _, _, _, _⟩ _ _ = _
 rw [h]
 rfl
theorem frmR_f {l : Sl} {c : Int} {s : Sr} (h : l.l = s.pe.fr.l ++ [[c]]) : (frmR l s).f = frmS c s.f := by
 show Sf.mk _ _ ⟨_, _, _, l.l, _, _, _, _, _, _⟩ _ _ = _
 rw [h]
 rfl
theorem inpR_f {a : Bool} {l : Sl} {m : List (List Int)} {s : Sr} (h : l.l = bif a then [] else m) : (inpR a l s).f = inpS a m s.f := by
 show Sf.mk _ _ ⟨_, _, _, _, _, _, l.l, _, _, _⟩ _ _ = _
 rw [h]
 rfl
theorem takR_f (s : Sr) : (takR s).f = takS s.f := rfl
theorem Df.setAtt (h : Df base X w q v L) (hi : L[i]? = some (id, s)) (hg : v.ownBlock = some g) (z : Int) :
  Df base X ((w.setCell ⟨g, i * 33 + 3, none⟩ (.bool true)).setCell ⟨g, i * 33 + 3 + 1, none⟩ (.int .i64 z)) q v (L.set i (id, attR z s)) ∧ Kp [g] w ((w.setCell ⟨g, i * 33 + 3, none⟩ (.bool true)).setCell ⟨g, i * 33 + 3 + 1, none⟩ (.int .i64 z)) := by
 have hok := h.ok _ (Df.mem hi)
 have hof := h.off _ (Df.mem hi)
 exact h.setl hi hg (j := 3) [.bool true, .int .i64 z] (by show _ + 2 ≤ 33; omega) (attR z s) rfl ⟨⟨hok.pe.dm, hok.pe.fr, hok.pe.rg, hok.pe.od, hok.pe.pl⟩, hok.ca, hok.no⟩ (fun P hP => ⟨⟨(hof P hP).pe.dm, (hof P hP).pe.fr, (hof P hP).pe.rg, (hof P hP).pe.od, (hof P hP).pe.pl⟩, (hof P hP).ca, (hof P hP).no⟩)
theorem Df.setDm (h : Df base X w q v L) (hi : L[i]? = some (id, s)) (hg : v.ownBlock = some g) (l : Sl) (hl : RdM 4 w l.a l.n l.c l.l) (ho : ∀ P ∈ q :: (v.ownBlock.toList ++ X), ∀ y, l.a = some y → 0 < l.n → y.block ≠ P) :
  Df base X (w.setCell ⟨g, i * 33 + 3 + 2, none⟩ (.slice l.a l.n l.c)) q v (L.set i (id, dmgR l s)) ∧ Kp [g] w (w.setCell ⟨g, i * 33 + 3 + 2, none⟩ (.slice l.a l.n l.c)) := by
 have hok := h.ok _ (Df.mem hi)
 have hof := h.off _ (Df.mem hi)
 exact h.set hi hg (j := 5) (by omega) (.slice l.a l.n l.c) (dmgR l s) rfl ⟨⟨hl, hok.pe.fr, hok.pe.rg, hok.pe.od, hok.pe.pl⟩, hok.ca, hok.no⟩ (fun P hP => ⟨⟨ho P hP, (hof P hP).pe.fr, (hof P hP).pe.rg, (hof P hP).pe.od, (hof P hP).pe.pl⟩, (hof P hP).ca, (hof P hP).no⟩)
theorem Df.setFr (h : Df base X w q v L) (hi : L[i]? = some (id, s)) (hg : v.ownBlock = some g) (l : Sl) (hl : RdM 1 w l.a l.n l.c l.l) (ho : ∀ P ∈ q :: (v.ownBlock.toList ++ X), ∀ y, l.a = some y → 0 < l.n → y.block ≠ P) :
  Df base X (w.setCell ⟨g, i * 33 + 3 + 3, none⟩ (.slice l.a l.n l.c)) q v (L.set i (id, frmR l s)) ∧ Kp [g] w (w.setCell ⟨g, i * 33 + 3 + 3, none⟩ (.slice l.a l.n l.c)) := by
 have hok := h.ok _ (Df.mem hi)
 have hof := h.off _ (Df.mem hi)
 exact h.set hi hg (j := 6) (by omega) (.slice l.a l.n l.c) (frmR l s) rfl ⟨⟨hok.pe.dm, hl, hok.pe.rg, hok.pe.od, hok.pe.pl⟩, hok.ca, hok.no⟩ (fun P hP => ⟨⟨(hof P hP).pe.dm, ho P hP, (hof P hP).pe.rg, (hof P hP).pe.od, (hof P hP).pe.pl⟩, (hof P hP).ca, (hof P hP).no⟩)
theorem Df.setIn (h : Df base X w q v L) (hi : L[i]? = some (id, s)) (hg : v.ownBlock = some g) (a : Bool) (l : Sl) (hl : RdM 4 w l.a l.n l.c l.l) (ho : ∀ P ∈ q :: (v.ownBlock.toList ++ X), ∀ y, l.a = some y → 0 < l.n → y.block ≠ P) :
  Df base X (((w.setCell ⟨g, i * 33 + 3 + 4, none⟩ (.bool true)).setCell ⟨g, i * 33 + 3 + 5, none⟩ (.bool a)).setCell ⟨g, i * 33 + 3 + 6, none⟩ (.slice l.a l.n l.c)) q v (L.set i (id, inpR a l s)) ∧ Kp [g] w (((w.setCell ⟨g, i * 33 + 3 + 4, none⟩ (.bool true)).setCell ⟨g, i * 33 + 3 + 5, none⟩ (.bool a)).setCell ⟨g, i * 33 + 3 + 6, none⟩ (.slice l.a l.n l.c)) := by
 have hok := h.ok _ (Df.mem hi)
 have hof := h.off _ (Df.mem hi)
 exact h.setl hi hg (j := 7) [.bool true, .bool a, .slice l.a l.n l.c] (by show _ + 3 ≤ 33; omega) (inpR a l s) rfl ⟨⟨hok.pe.dm, hok.pe.fr, hl, hok.pe.od, hok.pe.pl⟩, hok.ca, hok.no⟩ (fun P hP => ⟨⟨(hof P hP).pe.dm, (hof P hP).pe.fr, ho P hP, (hof P hP).pe.od, (hof P hP).pe.pl⟩, (hof P hP).ca, (hof P hP).no⟩)
theorem Df.setTak (h : Df base X w q v L) (hi : L[i]? = some (id, s)) (hg : v.ownBlock = some g) :
  Df base X (w.setCell ⟨g, i * 33 + 23 + 3, none⟩ (.slice none 0 0)) q v (L.set i (id, takR s)) ∧ Kp [g] w (w.setCell ⟨g, i * 33 + 23 + 3, none⟩ (.slice none 0 0)) := by
 have hok := h.ok _ (Df.mem hi)
 have hof := h.off _ (Df.mem hi)
 exact h.set hi hg (j := 26) (by omega) (.slice none 0 0) (takR s) rfl ⟨hok.pe, hok.ca, ⟨hok.no.dm, RdM.nil _ _, hok.no.rg, hok.no.od, hok.no.pl⟩⟩ (fun P hP => ⟨(hof P hP).pe, (hof P hP).ca, ⟨(hof P hP).no.dm, (fun y e => by cases e), (hof P hP).no.rg, (hof P hP).no.od, (hof P hP).no.pl⟩⟩)
theorem abs_turn (hn : (keys L).Nodup) (hi : L[i]? = some (id, s)) (hs : gt L id = some s) (f : Sf → Sf) (s' : Sr) (h : s'.f = f s.f) : abs (L.set i (id, s')) = upd (abs L) id f := by
 rw [← st_set hn hi]
 exact abs_upd hs f s' h
end
end Go.Proofs.YtkjempffidndeaaGreatDoor
