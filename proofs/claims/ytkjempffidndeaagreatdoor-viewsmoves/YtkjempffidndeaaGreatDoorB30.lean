/- Lemmas that the proof leans on. -/
import Derived.Test.YtkjempffidndeaaGreatDoorB29
namespace Go.Proofs.YtkjempffidndeaaGreatDoor
open Go Go.RowKit
open List renaming getElem_toArray → lqA, getElem_cons_zero → lqB, getElem_cons_succ → lqC, setIfInBounds_toArray → lqD, set_cons_zero → lqE, set_cons_succ → lqF
set_option maxRecDepth 100000
set_option maxHeartbeats 2000000
section
variable {base : Nat} {X : List Nat} {w : World} {q : Nat} {v : Value} {L : Ro}
theorem outr {w w' : World} {id : Int} {x : Sx} {e : Ending} (ok : x.Ok w) {Y : List Nat} (hof : ∀ P ∈ Y, x.Off P) (hY : ∀ P ∈ Y, P < w.heap.size) (h : OutR w id x e w') : ∃ r : Sx, e = .returned (.agg #[.bool r.at_, .int .i64 r.buf, .slice r.dm.a r.dm.n r.dm.c, .slice r.fr.a r.fr.n r.fr.c, .bool r.inp, .bool r.all, .slice r.rg.a r.rg.n r.rg.c, .bool r.ord, .slice r.od.a r.od.n r.od.c, .slice r.pl.a r.pl.n r.pl.c]) ∧ r.Ok w' ∧ r.q = outQ id x.q ∧ (∀ P ∈ Y, r.Off P) ∧ Below w.heap.size w w' := by
 obtain ⟨r, he, h1, h2, h3, h4, h5, h6, h7, h8, h9, h10, h11, h12, h13, h14, hb⟩ := h
 refine ⟨r, he, ⟨by rw [h3]; exact ok.dm.on hb, by rw [h4]; exact ok.fr.on hb, by rw [h7]; exact ok.rg.on hb, h11, h12⟩, ?_, fun P hP => ⟨by rw [h3]; exact (hof P hP).dm, by rw [h4]; exact (hof P hP).fr, by rw [h7]; exact (hof P hP).rg, fun y hy _ e => by have := h13 y hy; have := hY P hP; omega, fun y hy _ e => by have := h14 y hy; have := hY P hP; omega⟩, hb⟩
 unfold Sx.q outQ
 rw [h1, h2, h3, h4, h5, h6, h7, h8, h9, h10]
def RfR (base : Nat) (X : List Nat) (w : World) (q : Nat) (v : Value) (k : Nat) (F : Fo) (e : Ending) (w' : World) : Prop := e = .returned (.int .i64 (k : Nat)) ∧ ∃ L', Df base X w' q v L' ∧ abs L' = F ∧ Kp v.ownBlock.toList w w'
theorem kp_own {v : Value} {g : Nat} (hg : v.ownBlock = some g) {w w' : World} (h : Kp [g] w w') : Kp v.ownBlock.toList w w' := by rw [hg]; exact h
def outR (a b c : Sx) (s : Sr) : Sr := { s with pe := a, ca := b, no := c }
theorem outR_f {a b c : Sx} {s : Sr} {id : Int} (ha : a.q = outQ id s.pe.q) (hb : b.q = outQ id s.ca.q) (hc : c.q = outQ id s.no.q) : (outR a b c s).f = outS id s.f := by
 show Sf.mk _ _ a.q b.q c.q = _
 rw [ha, hb, hc]
 rfl
theorem runsub_any (h : Df base X w q v L) (hX : ∀ P ∈ X, P < w.heap.size) (hI : Inv (abs L)) {m : Nat} (hZ : Szf m (abs L)) (hm : m ≤ 900) (id : Int) :
  Calls Tryz.prog 41 #[.pointer (some ⟨q, 0, none⟩), .int .i64 id] w (RfR base X w q v (unsE (abs L) id) (unsF (abs L) id)) := by
 have CS := hid (rs_any h id)
 cases hs : gt L id with
 | none =>
  have hs' : gt (abs L) id = none := by rw [gt_abs, hs]; rfl
  have HE : Hid (RfR base X w q v (unsE (abs L) id) (unsF (abs L) id) (.returned (.int .i64 5)) w) := by
   refine ⟨by rw [unsE, hs']; rfl, L, h, by rw [unsF, hs'], Kp.refl _ _⟩
  have HN := hid hs
  clear h hX hI hZ hs hs'
  go_enter Tryz.func41, Tryz.ntmps41
  go_wp2_with fail
  refine CS.out.mono ?_
  rintro e w1 ⟨r, rfl, hr, rfl⟩
  obtain rfl := hr.no HN.out
  clear hr CS
  go_wp2
  go_ret
  exact HE.out
 | some s =>
  have hs' : gt (abs L) id = some s.f := by rw [gt_abs, hs]; rfl
  have HN := hid hs
  by_cases h0 : s.par = 0
  ·have HE : Hid (RfR base X w q v (unsE (abs L) id) (unsF (abs L) id) (.returned (.int .i64 10)) w) := by
    have e1 : s.f.par = 0 := h0
    refine ⟨by rw [unsE, hs']; dsimp only; rw [if_pos e1]; rfl, L, h, by rw [unsF, hs']; dsimp only; rw [if_pos e1], Kp.refl _ _⟩
   have HD := hid h
   clear h hX hI hZ hs hs'
   go_enter Tryz.func41, Tryz.ntmps41
   go_wp2_with fail
   refine CS.out.mono ?_
   rintro e w1 ⟨r, rfl, hr, rfl⟩
   obtain ⟨g, i, rfl, hg, hi⟩ := hr.ys HN.out
   have c1 : w1.cell? ⟨g, i * 33 + 1, none⟩ = some (.int .i64 s.par) := HD.out.at_ hi hg (by omega)
   rw [h0] at c1
   clear hr CS hg hi
   go_wp2
   go_ret
   exact HE.out
  ·obtain ⟨sq, hsq'⟩ := hI.acy.par id s.f hs' h0
   obtain ⟨sp, hsp, -⟩ : ∃ sp, gt L s.par = some sp ∧ sp.f = sq := by
    rw [gt_abs] at hsq'
    exact Option.map_eq_some_iff.1 hsq'
   have hne : s.par ≠ id := hI.self_ne hs'
   have hnod : (keys L).Nodup := by rw [← abs_keys]; exact hI.nod
   have CP := hid (rs_any h s.par)
   have hpm : (s.par, sp) ∈ L := by
    obtain ⟨ip, h1, _⟩ := at_key hsp
    exact List.mem_of_getElem? h1
   have hokp := h.ok _ hpm
   have hofp := h.off _ hpm
   obtain ⟨l1, l2, l3⟩ := zs_len (hZ _ _ (by rw [gt_abs, hsp]; rfl)) hokp hm
   have hblk := h.blk hX
   have HD := hid h
   have HSP := hid hsp
   have HOKP := hid hokp
   have HOFP := hid hofp
   have HBLK := hid hblk
   have HL1 := hid l1
   have HL2 := hid l2
   have HL3 := hid l3
   have HFIN : Hid (∀ a b c : Sx, a.q = outQ id sp.pe.q → b.q = outQ id sp.ca.q → c.q = outQ id sp.no.q → unsE (abs L) id = 0 ∧ ∀ ip i, L[ip]? = some (s.par, sp) → L[i]? = some (id, s) → (L.set ip (s.par, outR a b c sp))[i]? = some (id, s) ∧ abs ((L.set ip (s.par, outR a b c sp)).set i (id, { s with par := 0 })) = unsF (abs L) id) := fun a b c ha hb hc => by
    refine ⟨by rw [unsE, hs']; dsimp only; rw [if_neg (show ¬ s.f.par = 0 from h0)], fun ip i hip hi => ?_⟩
    have hii : ip ≠ i := fun e => by
     rw [e, hi] at hip
     cases hip
     exact hne rfl
    have h1 : (L.set ip (s.par, outR a b c sp))[i]? = some (id, s) := by rw [List.getElem?_set_ne hii]; exact hi
    refine ⟨h1, ?_⟩
    have e1 := st_set hnod hip (outR a b c sp)
    have hn1 : (keys (L.set ip (s.par, outR a b c sp))).Nodup := by rw [← e1, keys_st]; exact hnod
    have e2 := st_set hn1 h1 { s with par := 0 }
    have hg1 : gt (st L s.par (outR a b c sp)) id = some s := by rw [gt_st, if_neg (fun e => hne e.symm)]; exact hs
    rw [← e2, ← e1, abs_upd hg1 (fun t => { t with par := 0 }) { s with par := 0 } rfl, abs_upd hsp (outS id) (outR a b c sp) (outR_f ha hb hc), unsF, hs']
    dsimp only
    rw [if_neg (show ¬ s.f.par = 0 from h0)]
    rfl
   have e0 : (s.par == 0) = false := beq_false_of_ne h0
   clear h hX hI hZ hs hs' hsq' hsp hpm hokp hofp l1 l2 l3 hblk hnod
   go_enter Tryz.func41, Tryz.ntmps41
   go_wp2_with fail
   refine CS.out.mono ?_
   rintro e w1 ⟨r, rfl, hr, hw1⟩
   obtain rfl : w = w1 := hw1.symm
   obtain ⟨g, i, rfl, hg, hi⟩ := hr.ys HN.out
   have c1 : w.cell? ⟨g, i * 33 + 1, none⟩ = some (.int .i64 s.par) := HD.out.at_ hi hg (by omega)
   have HI := hid hi
   have HG := hid hg
   clear hr CS hg hi hw1
   go_wp2_with fail
   refine CP.out.mono ?_
   rintro e w2 ⟨r, rfl, hr, hw2⟩
   obtain rfl : w = w2 := hw2.symm
   obtain ⟨g', ip, rfl, hg', hip⟩ := hr.ys HSP.out
   obtain rfl : g = g' := by
    have := HG.out
    rw [hg'] at this
    exact (Option.some.inj this).symm
   have HIP := hid hip
   clear hr CP hg' hip hw2
   go_upto_region 7 with fail
   refine wp_region_gate_drew (g := 23) (S := fun u => RowKit.Below w.heap.size w u) (by kernel_rfl) ?hh (fun hHeld => ?_)
   case hh => exact ((Below.refl _ _).drew)
   generalize World.drew _ = W0 at hHeld ⊢
   try dsimp only at hHeld
   refine wpAnyG_take (i := 0) (v := ?_) rfl (by kernel_rfl) (by kernel_rfl) (by kernel_rfl) (by kernel_rfl) (fun _ _ _ h => h) (Or.inl ⟨by kernel_rfl, ?hy0⟩) (by assumption) ?_
   case hy0 => (intro wI hSw; (try dsimp only at hSw); go_simp; try with_reducible rfl)
   try simp only [Act.put, lqA, lqB, lqD, lqE, lqF]
   refine wpAnyG_takeFree (i := 1) (v := ?_) rfl (by kernel_rfl) (by kernel_rfl) (by kernel_rfl) (by kernel_rfl) (fun _ _ _ h => h) (Or.inl ⟨by kernel_rfl, ?hy1⟩) (by assumption) ?_
   case hy1 => (intro wI _; go_simp; try with_reducible rfl)
   try simp only [Act.put, lqA, lqB, lqC, lqD, lqE, lqF]
   refine wpAnyG_takeFree (i := 2) (v := ?_) rfl (by kernel_rfl) (by kernel_rfl) (by kernel_rfl) (by kernel_rfl) (fun _ _ _ h => h) (Or.inl ⟨by kernel_rfl, ?hy2⟩) (by assumption) ?_
   case hy2 => (intro wI _; go_simp; try with_reducible rfl)
   try simp only [Act.put, lqA, lqB, lqC, lqD, lqE, lqF]
   refine wpAnyG_take (i := 3) (v := ?_) rfl (by kernel_rfl) (by kernel_rfl) (by kernel_rfl) (by kernel_rfl) (fun _ _ _ h => h) (Or.inl ⟨by kernel_rfl, ?hy3⟩) (by assumption) ?_
   case hy3 => (intro wI hSw; (try dsimp only at hSw); go_simp; try with_reducible rfl)
   try simp only [Act.put, lqA, lqB, lqC, lqD, lqE, lqF]
   refine wpAnyG_take (i := 4) (v := ?_) rfl (by kernel_rfl) (by kernel_rfl) (by kernel_rfl) (by kernel_rfl) (fun _ _ _ h => h) (Or.inl ⟨by kernel_rfl, ?hy4⟩) (by assumption) ?_
   case hy4 => (intro wI hSw; (try dsimp only at hSw); go_simp; try with_reducible rfl)
   try simp only [Act.put, lqA, lqB, lqC, lqD, lqE, lqF]
   refine wpAnyG_take (i := 5) (v := ?_) rfl (by kernel_rfl) (by kernel_rfl) (by kernel_rfl) (by kernel_rfl) (fun _ _ _ h => h) (Or.inl ⟨by kernel_rfl, ?hy5⟩) (by assumption) ?_
   case hy5 => (intro wI hSw; (try dsimp only at hSw); go_simp; try with_reducible rfl)
   try simp only [Act.put, lqA, lqB, lqC, lqD, lqE, lqF]
   refine wpAnyG_take (i := 6) (v := ?_) rfl (by kernel_rfl) (by kernel_rfl) (by kernel_rfl) (by kernel_rfl) (fun _ _ _ h => h) (Or.inl ⟨by kernel_rfl, ?hy6⟩) (by assumption) ?_
   case hy6 => (intro wI hSw; (try dsimp only at hSw); obtain ⟨k0, k1, k2, k3, k4, k5, k6, k7, k8, k9⟩ := (HD.out.on hSw).scPe HIP.out HG.out; go_simp; try with_reducible rfl)
   try simp only [Act.put, lqA, lqB, lqC, lqD, lqE, lqF]
   refine wpAnyG_take (i := 7) (v := ?_) rfl (by kernel_rfl) (by kernel_rfl) (by kernel_rfl) (by kernel_rfl) (fun _ _ _ h => h) (Or.inl ⟨by kernel_rfl, ?hy7⟩) (by assumption) ?_
   case hy7 => (intro wI hSw; (try dsimp only at hSw); go_simp; try with_reducible rfl)
   try simp only [Act.put, lqA, lqB, lqC, lqD, lqE, lqF]
   refine wpAnyG_take (i := 9) (v := ?_) rfl (by kernel_rfl) (by kernel_rfl) (by kernel_rfl) (by kernel_rfl) (fun _ _ _ h => h) (Or.inl ⟨by kernel_rfl, ?hy9⟩) (by assumption) ?_
   case hy9 => (intro wI hSw; (try dsimp only at hSw); go_simp; try with_reducible rfl)
   try simp only [Act.put, lqA, lqB, lqC, lqD, lqE, lqF]
   refine wpAnyG_take (i := 10) (v := ?_) rfl (by kernel_rfl) (by kernel_rfl) (by kernel_rfl) (by kernel_rfl) (fun _ _ _ h => h) (Or.inl ⟨by kernel_rfl, ?hy10⟩) (by assumption) ?_
   case hy10 => (intro wI hSw; (try dsimp only at hSw); go_simp; try with_reducible rfl)
   try simp only [Act.put, lqA, lqB, lqC, lqD, lqE, lqF]
   refine wpAnyG_take (i := 11) (v := ?_) rfl (by kernel_rfl) (by kernel_rfl) (by kernel_rfl) (by kernel_rfl) (fun _ _ _ h => h) (Or.inl ⟨by kernel_rfl, ?hy11⟩) (by assumption) ?_
   case hy11 => (intro wI hSw; (try dsimp only at hSw); go_simp; try with_reducible rfl)
   try simp only [Act.put, lqA, lqB, lqC, lqD, lqE, lqF]
   refine wpAnyG_take (i := 12) (v := ?_) rfl (by kernel_rfl) (by kernel_rfl) (by kernel_rfl) (by kernel_rfl) (fun _ _ _ h => h) (Or.inl ⟨by kernel_rfl, ?hy12⟩) (by assumption) ?_
   case hy12 => (intro wI hSw; (try dsimp only at hSw); obtain ⟨k0, k1, k2, k3, k4, k5, k6, k7, k8, k9⟩ := (HD.out.on hSw).scCa HIP.out HG.out; go_simp; try with_reducible rfl)
   try simp only [Act.put, lqA, lqB, lqC, lqD, lqE, lqF]
   refine wpAnyG_take (i := 13) (v := ?_) rfl (by kernel_rfl) (by kernel_rfl) (by kernel_rfl) (by kernel_rfl) (fun _ _ _ h => h) (Or.inl ⟨by kernel_rfl, ?hy13⟩) (by assumption) ?_
   case hy13 => (intro wI hSw; (try dsimp only at hSw); go_simp; try with_reducible rfl)
   try simp only [Act.put, lqA, lqB, lqC, lqD, lqE, lqF]
   refine wpAnyG_take (i := 15) (v := ?_) rfl (by kernel_rfl) (by kernel_rfl) (by kernel_rfl) (by kernel_rfl) (fun _ _ _ h => h) (Or.inl ⟨by kernel_rfl, ?hy15⟩) (by assumption) ?_
   case hy15 => (intro wI hSw; (try dsimp only at hSw); go_simp; try with_reducible rfl)
   try simp only [Act.put, lqA, lqB, lqC, lqD, lqE, lqF]
   refine wpAnyG_take (i := 16) (v := ?_) rfl (by kernel_rfl) (by kernel_rfl) (by kernel_rfl) (by kernel_rfl) (fun _ _ _ h => h) (Or.inl ⟨by kernel_rfl, ?hy16⟩) (by assumption) ?_
   case hy16 => (intro wI hSw; (try dsimp only at hSw); go_simp; try with_reducible rfl)
   try simp only [Act.put, lqA, lqB, lqC, lqD, lqE, lqF]
   refine wpAnyG_take (i := 17) (v := ?_) rfl (by kernel_rfl) (by kernel_rfl) (by kernel_rfl) (by kernel_rfl) (fun _ _ _ h => h) (Or.inl ⟨by kernel_rfl, ?hy17⟩) (by assumption) ?_
   case hy17 => (intro wI hSw; (try dsimp only at hSw); go_simp; try with_reducible rfl)
   try simp only [Act.put, lqA, lqB, lqC, lqD, lqE, lqF]
   refine wpAnyG_take (i := 18) (v := ?_) rfl (by kernel_rfl) (by kernel_rfl) (by kernel_rfl) (by kernel_rfl) (fun _ _ _ h => h) (Or.inl ⟨by kernel_rfl, ?hy18⟩) (by assumption) ?_
   case hy18 => (intro wI hSw; (try dsimp only at hSw); obtain ⟨k0, k1, k2, k3, k4, k5, k6, k7, k8, k9⟩ := (HD.out.on hSw).scNo HIP.out HG.out; go_simp; try with_reducible rfl)
   try simp only [Act.put, lqA, lqB, lqC, lqD, lqE, lqF]
   refine wpAnyG_take (i := 19) (v := ?_) rfl (by kernel_rfl) (by kernel_rfl) (by kernel_rfl) (by kernel_rfl) (fun _ _ _ h => h) (Or.inl ⟨by kernel_rfl, ?hy19⟩) (by assumption) ?_
   case hy19 => (intro wI hSw; (try dsimp only at hSw); go_simp; try with_reducible rfl)
   try simp only [Act.put, lqA, lqB, lqC, lqD, lqE, lqF]
   refine wpAnyG_ready (rs := [8]) (by kernel_rfl) (by simp) ?_
   refine AllReadyG.cons rfl (fun K hK => ?_) AllReadyG.nil
   go_simp
   go_wp2_with fail
   have okx := HOKP.out.pe.on hHeld
   refine (rout_any sp.pe id _ okx HL1.out).mono ?_
   rintro e W8 hx
   obtain ⟨r8, rfl, ok8, q8, of8, hb⟩ := outr okx (fun P hP => (HOFP.out P hP).pe) (fun P hP => Nat.lt_of_lt_of_le (HBLK.out P hP) hHeld.size) hx
   try replace OK8 := hid (OK8.out.on hb)
   try replace OK14 := hid (OK14.out.on hb)
   have OK8 := hid ok8
   have Q8 := hid q8
   have OF8 := hid of8
   replace hHeld := Below.on hHeld hb
   refine hK.out _ _ hHeld (fun _ => ?_)
   clear hK K hx hb okx ok8 q8 of8
   try simp only [Act.put, lqA, lqB, lqC, lqD, lqE, lqF]
   refine wpAnyG_ready (rs := [14]) (by kernel_rfl) (by simp) ?_
   refine AllReadyG.cons rfl (fun K hK => ?_) AllReadyG.nil
   go_simp
   go_wp2_with fail
   have okx := HOKP.out.ca.on hHeld
   refine (rout_any sp.ca id _ okx HL2.out).mono ?_
   rintro e W14 hx
   obtain ⟨r14, rfl, ok14, q14, of14, hb⟩ := outr okx (fun P hP => (HOFP.out P hP).ca) (fun P hP => Nat.lt_of_lt_of_le (HBLK.out P hP) hHeld.size) hx
   try replace OK8 := hid (OK8.out.on hb)
   try replace OK14 := hid (OK14.out.on hb)
   have OK14 := hid ok14
   have Q14 := hid q14
   have OF14 := hid of14
   replace hHeld := Below.on hHeld hb
   refine hK.out _ _ hHeld (fun _ => ?_)
   clear hK K hx hb okx ok14 q14 of14
   try simp only [Act.put, lqA, lqB, lqC, lqD, lqE, lqF]
   refine wpAnyG_ready (rs := [20]) (by kernel_rfl) (by simp) ?_
   refine AllReadyG.cons rfl (fun K hK => ?_) AllReadyG.nil
   go_simp
   go_wp2_with fail
   have okx := HOKP.out.no.on hHeld
   refine (rout_any sp.no id _ okx HL3.out).mono ?_
   rintro e W20 hx
   obtain ⟨r20, rfl, ok20, q20, of20, hb⟩ := outr okx (fun P hP => (HOFP.out P hP).no) (fun P hP => Nat.lt_of_lt_of_le (HBLK.out P hP) hHeld.size) hx
   try replace OK8 := hid (OK8.out.on hb)
   try replace OK14 := hid (OK14.out.on hb)
   have OK20 := hid ok20
   have Q20 := hid q20
   have OF20 := hid of20
   replace hHeld := Below.on hHeld hb
   refine hK.out _ _ hHeld (fun _ => ?_)
   clear hK K hx hb okx ok20 q20 of20
   try simp only [Act.put, lqA, lqB, lqC, lqD, lqE, lqF]
   refine wpAnyG_take (i := 21) (v := ?_) rfl (by kernel_rfl) (by kernel_rfl) (by kernel_rfl) (by kernel_rfl) (fun _ _ _ h => h) (Or.inl ⟨by kernel_rfl, ?hy21⟩) (by assumption) ?_
   case hy21 => (intro wI hSw; (try dsimp only at hSw); go_simp; try with_reducible rfl)
   try simp only [Act.put, lqA, lqB, lqC, lqD, lqE, lqF]
   refine wpAnyG_take (i := 22) (v := ?_) rfl (by kernel_rfl) (by kernel_rfl) (by kernel_rfl) (by kernel_rfl) (fun _ _ _ h => h) (Or.inl ⟨by kernel_rfl, ?hy22⟩) (by assumption) ?_
   case hy22 => (intro wI hSw; (try dsimp only at hSw); go_simp; try with_reducible rfl)
   try simp only [Act.put, lqA, lqB, lqC, lqD, lqE, lqF]
   have hG := hHeld
   clear hHeld
   have hHeld : True := trivial
   refine wpAnyG_gateOp rfl (by kernel_rfl) (fun K hK => ?_)
   have hD := HD.out.on hG
   have hKP := kp_of_below hG [g]
   obtain ⟨k0, k1, k2, k3, k4, k5, k6, k7, k8, k9⟩ := hD.scPe HIP.out HG.out
   have fz := hD.fz HG.out
   have hN := hD.setPe HIP.out HG.out r8 OK8.out OF8.out
   go_simp
   refine hK.out _ _ trivial (fun _ => ?_)
   clear hK K k0 k1 k2 k3 k4 k5 k6 k7 k8 k9 fz
   change wpAnyH _ _ _ _ _ _ _ _ (sto W20 g (ip * 33 + 3) r8)
   replace OK14 := hid (OK14.out.kpo (OF14.out g (by simp [HG.out])) hN.2)
   replace OK20 := hid (OK20.out.kpo (OF20.out g (by simp [HG.out])) hN.2)
   generalize sto W20 g (ip * 33 + 3) r8 = W23 at *
   have hD2 := hN.1
   have hKP2 := hKP.trans hN.2 (fun k hk _ => hk)
   clear hD hKP hN
   have hD := hD2
   have hKP := hKP2
   clear hD2 hKP2
   have HIP1 : Hid ((L.set ip (s.par, peR r8 sp))[ip]? = some (s.par, peR r8 sp)) := List.getElem?_set_self (List.getElem?_eq_some_iff.1 HIP.out).1
   try simp only [Act.put, lqA, lqB, lqC, lqD, lqE, lqF]
   refine wpAnyH_take (i := 24) (v := ?_) rfl (by kernel_rfl) (by kernel_rfl) (by kernel_rfl) (fun _ _ _ h => h) (Or.inl ⟨by kernel_rfl, ?hy24⟩) (by assumption) ?_
   case hy24 => (intro wI hSw; (try dsimp only at hSw); go_simp; try with_reducible rfl)
   try simp only [Act.put, lqA, lqB, lqC, lqD, lqE, lqF]
   refine wpAnyH_take (i := 25) (v := ?_) rfl (by kernel_rfl) (by kernel_rfl) (by kernel_rfl) (fun _ _ _ h => h) (Or.inl ⟨by kernel_rfl, ?hy25⟩) (by assumption) ?_
   case hy25 => (intro wI hSw; (try dsimp only at hSw); go_simp; try with_reducible rfl)
   try simp only [Act.put, lqA, lqB, lqC, lqD, lqE, lqF]
   refine wpAnyH_ready (rs := [26]) (by kernel_rfl) (by simp) ?_
   refine AllReadyH.cons rfl (fun K hK => ?_) AllReadyH.nil
   obtain ⟨k0, k1, k2, k3, k4, k5, k6, k7, k8, k9⟩ := hD.scCa HIP1.out HG.out
   have fz := hD.fz HG.out
   have hN := hD.setCa HIP1.out HG.out r14 OK14.out OF14.out
   go_simp
   refine hK.out _ _ trivial (fun _ => ?_)
   clear hK K k0 k1 k2 k3 k4 k5 k6 k7 k8 k9 fz
   change wpAnyH _ _ _ _ _ _ _ _ (sto W23 g (ip * 33 + 13) r14)
   replace OK20 := hid (OK20.out.kpo (OF20.out g (by simp [HG.out])) hN.2)
   generalize sto W23 g (ip * 33 + 13) r14 = W26 at *
   have hD2 := hN.1
   have hKP2 := hKP.trans hN.2 (fun k hk _ => hk)
   clear hD hKP hN
   have hD := hD2
   have hKP := hKP2
   clear hD2 hKP2
   rw [List.set_set] at hD
   have HIP2 : Hid ((L.set ip (s.par, caR r14 (peR r8 sp)))[ip]? = some (s.par, caR r14 (peR r8 sp))) := List.getElem?_set_self (List.getElem?_eq_some_iff.1 HIP.out).1
   try simp only [Act.put, lqA, lqB, lqC, lqD, lqE, lqF]
   refine wpAnyH_take (i := 27) (v := ?_) rfl (by kernel_rfl) (by kernel_rfl) (by kernel_rfl) (fun _ _ _ h => h) (Or.inl ⟨by kernel_rfl, ?hy27⟩) (by assumption) ?_
   case hy27 => (intro wI hSw; (try dsimp only at hSw); go_simp; try with_reducible rfl)
   try simp only [Act.put, lqA, lqB, lqC, lqD, lqE, lqF]
   refine wpAnyH_take (i := 28) (v := ?_) rfl (by kernel_rfl) (by kernel_rfl) (by kernel_rfl) (fun _ _ _ h => h) (Or.inl ⟨by kernel_rfl, ?hy28⟩) (by assumption) ?_
   case hy28 => (intro wI hSw; (try dsimp only at hSw); go_simp; try with_reducible rfl)
   try simp only [Act.put, lqA, lqB, lqC, lqD, lqE, lqF]
   refine wpAnyH_ready (rs := [29]) (by kernel_rfl) (by simp) ?_
   refine AllReadyH.cons rfl (fun K hK => ?_) AllReadyH.nil
   obtain ⟨k0, k1, k2, k3, k4, k5, k6, k7, k8, k9⟩ := hD.scNo HIP2.out HG.out
   have fz := hD.fz HG.out
   have hN := hD.setNo HIP2.out HG.out r20 OK20.out OF20.out
   go_simp
   refine hK.out _ _ trivial (fun _ => ?_)
   clear hK K k0 k1 k2 k3 k4 k5 k6 k7 k8 k9 fz
   change wpAnyH _ _ _ _ _ _ _ _ (sto W26 g (ip * 33 + 23) r20)
   generalize sto W26 g (ip * 33 + 23) r20 = W29 at *
   have hD2 := hN.1
   have hKP2 := hKP.trans hN.2 (fun k hk _ => hk)
   clear hD hKP hN
   have hD := hD2
   have hKP := hKP2
   clear hD2 hKP2
   rw [List.set_set] at hD
   have HDF : Hid (Df base X W29 q v (L.set ip (s.par, outR r8 r14 r20 sp))) := hD
   have HKF := hid hKP
   clear hD hKP
   try simp only [Act.put, lqA, lqB, lqC, lqD, lqE, lqF]
   refine wpAnyH_done (by kernel_rfl) ?_ _
   obtain ⟨u0, hfin⟩ := HFIN.out r8 r14 r20 Q8.out Q14.out Q20.out
   obtain ⟨hii, habs⟩ := hfin ip i HIP.out HI.out
   have hN := HDF.out.setPar hii HG.out 0
   have cp : W29.cell? ⟨g, i * 33 + 1, none⟩ = some (.int .i64 s.par) := HDF.out.at_ hii HG.out (j := 1) (by omega)
   have fp := HDF.out.fz HG.out (i * 33 + 1)
   have HE : Hid (RfR base X w q v (unsE (abs L) id) (unsF (abs L) id) (.returned (.int .i64 0)) (W29.setCell ⟨g, i * 33 + 1, none⟩ (.int .i64 0))) := ⟨by rw [u0]; rfl, _, hN.1, habs, kp_own HG.out (HKF.out.trans hN.2 (fun k hk _ => hk))⟩
   clear hii habs hN hfin u0 c1
   go_wp2
   go_ret
   exact HE.out
end
end Go.Proofs.YtkjempffidndeaaGreatDoor
