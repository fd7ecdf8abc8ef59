/- Lemmas that the proof leans on. -/
import Derived.Test.YtkjempffidndeaaGreatDoorB32
namespace Go.Proofs.YtkjempffidndeaaGreatDoor
open Go Go.RowKit
open List renaming getElem_toArray → lqA, getElem_cons_zero → lqB, getElem_cons_succ → lqC, setIfInBounds_toArray → lqD, set_cons_zero → lqE, set_cons_succ → lqF
set_option maxRecDepth 100000
set_option maxHeartbeats 4000000
section
variable {base : Nat} {X : List Nat} {q : Nat} {v : Value} {B : Nat}
theorem rkids_any {m : Nat} (hm : m ≤ 900) : ∀ (n : Nat) (x : Int) (u : World) (L : Ro) (vl : Value) (acc : List Int) (s : Sr), Kw base X q v B u L vl acc → Inv (abs L) → Nof (abs L) → Szf m (abs L) → gt L x = some s → 40 ≤ n + dpt (abs L) x → n ≤ 41 → acc.length + 100 * n ≤ 100000 →
  Calls Tryz.prog 104 #[.pointer (some ⟨q, 0, none⟩), vl, .int .i64 x] u (KdR base X q v B u vl (kds (n + 1) (abs L) x acc)) := by
 intro n
 induction n using Nat.strongRecOn with
 | ind n ih =>
  intro x u L vl acc s hK hI hN hZ hs hd hn hacc
  obtain ⟨i0, hi, hz0, hz1, hz2⟩ := infoZp
  have hsa : gt (abs L) x = some s.f := by rw [gt_abs, hs]; rfl
  have hmem := mem_gt' hs
  have hok0 : s.Ok u := hK.df.ok _ hmem
  obtain ⟨od, hod⟩ : ∃ od, od = un1 s.no.od.l := ⟨_, rfl⟩
  obtain ⟨N, hNN⟩ : ∃ N, N = s.no.od.n := ⟨_, rfl⟩
  obtain ⟨oa, hoa⟩ : ∃ oa, oa = s.no.od.a := ⟨_, rfl⟩
  obtain ⟨oc, hoc⟩ : ∃ oc, oc = s.no.od.c := ⟨_, rfl⟩
  have HFIN : Hid (kds (n + 1) (abs L) x acc = od.foldl (kst n) (abs L, acc)) := by rw [Hid, kds_succ, hsa, hod]; rfl
  have HFLD : Hid (∀ j, Fld (abs L) m ((od.take j).foldl (kst n) (abs L, acc)).1 ∧ ((od.take j).foldl (kst n) (abs L, acc)).2.length ≤ acc.length + 40) := fun j => by rw [hod]; exact fld_len hI hN hZ hsa acc j
  have HRZ : Hid (∀ vl1 u1, Kb v vl u vl1 u1 → Rz u1 oa N oc od) := fun vl1 u1 hk => by
   rw [hod, hNN, hoa, hoc]
   exact rz_of_rdm (rdm_kb hok0.no.od hk (fun y P hy hn hP => by
    rcases hP with hP | hP
    ·exact ((hK.df.off _ hmem P (by simp [hP])).no).od y hy hn
    ·exact (hK.off _ hmem P hP).no.od y hy hn))
  have hN63 := (HRZ.out _ _ (Kb.refl v vl u)).small.1
  have HLN := hid (HRZ.out _ _ (Kb.refl v vl u)).len
  have HREC : Hid (∀ (L1 : Ro) (A1 : List Int) (j : Nat) (k : Int), Fld (abs L) m (abs L1) → A1.length ≤ acc.length + 40 → od[j]? = some k → k ≠ 0 → ∀ (wc : World) (L2 : Ro) (vv : Value) (A2 : List Int), Kw base X q v B wc L2 vv A2 → (abs L2 = abs L1 ∧ A2 = A1 ∨ abs L2 = upd (abs L1) k aplS ∧ A2 = A1 ++ [k]) → Calls Tryz.prog 104 #[.pointer (some ⟨q, 0, none⟩), vv, .int .i64 k] wc (KdR base X q v B wc vv (kds n (abs L2) k A2))) := fun L1 A1 j k hF hl hj hk0 wc L2 vv A2 hK2 h2 => by
   obtain ⟨c0, hc0, hpar⟩ := hI.kid x s.f hsa k (.inr (.inr (by show k ∈ un1 s.no.od.l; rw [← hod]; exact List.mem_of_getElem? hj))) hk0
   have hdk := dpt_lt hI.acy hc0
   rw [hpar] at hdk
   have hdl := dpt_le (abs L) k
   have hFl := hI.len
   obtain ⟨n', rfl⟩ : ∃ n', n = n' + 1 := ⟨n - 1, by omega⟩
   have hall : Fld (abs L) m (abs L2) ∧ A2.length ≤ acc.length + 41 := by
    rcases h2 with ⟨e1, e2⟩ | ⟨e1, e2⟩
    ·rw [e1, e2]
     exact ⟨hF, by omega⟩
    ·rw [e1, e2]
     exact ⟨⟨hF.inv.apls k, hF.nof.turn _ _ fun s _ hs => hs.apls, hF.szf.turn (Nat.le_refl m) _ _ fun s hs => hs.apls, hF.tre.trans (tre_upd _ k aplS (fun _ => ⟨rfl, rfl⟩))⟩, by rw [List.length_append]; simp; omega⟩
   obtain ⟨hF2, hl2⟩ := hall
   obtain ⟨t, ht, -, -⟩ := hF2.tre.some hc0
   rw [gt_abs] at ht
   obtain ⟨s2, hs2, -⟩ := Option.map_eq_some_iff.1 ht
   have hd2 := hF2.tre.dpt k
   exact ih n' (by omega) k wc L2 vv A2 s2 hK2 hF2.inv hF2.nof hF2.szf hs2 (by omega) (by omega) (by omega)
  have HKST0 : Hid (∀ (L1 : Ro) (A1 : List Int) (k : Int), gt L1 k = none → kst n (abs L1, A1) k = (abs L1, A1)) := fun L1 A1 k h => by
   unfold kst
   rw [gt_abs, h]
   rfl
  have HKST1 : Hid (∀ (L1 : Ro) (A1 : List Int) (k : Int) (c : Sr), gt L1 k = some c → sy (abs L1) k = false → kst n (abs L1, A1) k = (abs L1, A1)) := fun L1 A1 k c h h1 => by
   unfold kst
   rw [gt_abs, h]
   exact if_pos (.inr h1)
  have HKST2 : Hid (∀ (L1 : Ro) (A1 : List Int) (k : Int) (c : Sr), gt L1 k = some c → k ≠ 0 → sy (abs L1) k = true → ∀ (L2 : Ro) (A2 : List Int), (non c.ca.q = true ∧ abs L2 = abs L1 ∧ A2 = A1 ∨ non c.ca.q = false ∧ abs L2 = upd (abs L1) k aplS ∧ A2 = A1 ++ [k]) → kst n (abs L1, A1) k = kds n (abs L2) k A2) := fun L1 A1 k c h h0 h1 L2 A2 h2 => by
   unfold kst
   rw [gt_abs, h]
   show (if k = 0 ∨ sy (abs L1) k = false then _ else if non c.ca.q then _ else _) = _
   rw [if_neg (by rw [h1]; simp [h0])]
   rcases h2 with ⟨e, e1, e2⟩ | ⟨e, e1, e2⟩
   ·rw [e, e1, e2]; rfl
   ·rw [e, e1, e2]; rfl
  have CS := hid (rs_any hK.df x)
  have HN := hid hs
  have HK := hid hK
  have c2w : ∀ g i, v.ownBlock = some g → L[i]? = some (x, s) → u.cell? ⟨g, i * 33 + 23 + 8, none⟩ = some (.slice oa N oc) := fun g i hg hi1 => by
   rw [hNN, hoa, hoc]
   exact hK.df.at_ hi1 hg (j := 31) (by omega)
  have HC2 := hid c2w
  clear hK hI hN hZ hs hsa hmem hok0 hod hNN hoa hoc ih hd hn c2w
  go_enter Tryz.func104, Tryz.ntmps104
  go_wp2_with fail
  refine CS.out.mono ?_
  rintro e w1 ⟨r, rfl, hr, hw1⟩
  obtain rfl : u = w1 := hw1.symm
  obtain ⟨g, i, rfl, hg, hi1⟩ := hr.ys HN.out
  have c2 := HC2.out g i hg hi1
  have HG := hid hg
  clear hr CS hw1 hg hi1 HC2
  go_wp2
  go_loopw [1, 8] (fun vv i wr => ∃ j : Nat, i = .int .i64 j ∧ j ≤ N ∧ ∃ L1, Kw base X q v B wr L1 vv ((od.take j).foldl (kst n) (abs L, acc)).2 ∧ abs L1 = ((od.take j).foldl (kst n) (abs L, acc)).1 ∧ Kb v vl u vv wr) (fun _ i _ => N - (numOf i).toNat)
  case atStart => exact ⟨0, rfl, by omega, L, HK.out, rfl, Kb.refl _ _ _⟩
  case round =>
   obtain ⟨j, rfl, hj, L1, hK1, ha1, hb1⟩ := hrel
   obtain ⟨hF, hlen⟩ := HFLD.out j
   by_cases hgo : j < N
   ·have e1 : decide ((j : Int) < N) = true := decide_eq_true (by omega)
    have e2 : (j : Int) < N := by omega
    obtain ⟨bl, off, k, ha, _, hk, ck⟩ := (HRZ.out _ _ hb1).at_ (j := j) hgo
    have HFT := hid (fold_take hk (kst n) (abs L, acc))
    obtain ⟨⟨F1, A1⟩, hr1⟩ : ∃ r1, r1 = (od.take j).foldl (kst n) (abs L, acc) := ⟨_, rfl⟩
    rw [← hr1] at hK1 ha1 hF hlen HFT
    dsimp only at hK1 ha1 hF hlen
    subst ha1
    subst ha
    have HKJ := hid hk
    have CS1 := hid (rs_any hK1.df k)
    have HK1 := hid hK1
    have HB1 := hid hb1
    have HF := hid hF
    clear hr1 hk hF hb1
    cases hc : gt L1 k with
    | none =>
     rw [HKST0.out L1 A1 k hc] at HFT
     have HCN := hid hc
     clear hc hK1
     by_cases hk0 : k = 0
     ·subst hk0
      go_wp2_with fail
      refine CS1.out.mono ?_
      rintro e w5 ⟨r, rfl, hr, hw5⟩
      obtain rfl : wr = w5 := hw5.symm
      obtain rfl := hr.no HCN.out
      clear hr hw5 CS1
      go_wp2
      go_roundw
      case rel => exact ⟨j + 1, by go_num, by omega, L1, by rw [HFT.out]; exact HK1.out, by rw [HFT.out], HB1.out⟩
      case measure => simp [numOf]; omega
     ·have e3 : (k == 0) = false := beq_false_of_ne hk0
      go_wp2_with fail
      refine CS1.out.mono ?_
      rintro e w5 ⟨r, rfl, hr, hw5⟩
      obtain rfl : wr = w5 := hw5.symm
      obtain rfl := hr.no HCN.out
      clear hr hw5 CS1
      go_wp2
      go_roundw
      case rel => exact ⟨j + 1, by go_num, by omega, L1, by rw [HFT.out]; exact HK1.out, by rw [HFT.out], HB1.out⟩
      case measure => simp [numOf]; omega
    | some c =>
     have hk0 : k ≠ 0 := fun e => by
      have := HF.out.inv.zero
      rw [e] at hc
      rw [gt_abs, hc] at this
      cases this
     have e3 : (k == 0) = false := beq_false_of_ne hk0
     have CSY := hid (rsynced_any hK1.df HF.out.inv.acy _ k (Nat.le_refl _))
     have HCC := hid hc
     have hokc : c.Ok wr := hK1.df.ok _ (mem_gt' hc)
     obtain ⟨-, l2, l3⟩ := zs_len (HF.out.szf k c.f (by rw [gt_abs, hc]; rfl)) hokc hm
     have HL2 := hid l2
     have HL3 := hid l3
     have HOKC := hid hokc
     have HND : Hid (keys L1).Nodup := by rw [Hid, ← abs_keys]; exact HF.out.inv.nod
     have CNO := hid (rnone_any c.ca wr hokc.ca)
     have HK0 := hid hk0
     clear hc hokc l2 l3 hk0
     go_wp2_with fail
     refine CS1.out.mono ?_
     rintro e w5 ⟨r, rfl, hr, hw5⟩
     obtain rfl : wr = w5 := hw5.symm
     obtain ⟨g', ic', rfl, hg', hic⟩ := hr.ys HCC.out
     obtain rfl : g = g' := Df.same HG.out hg'
     have d0 : wr.cell? ⟨g, ic' * 33, none⟩ = some (.int .i64 k) := hK1.df.at_ hic hg' (j := 0) (by omega)
     obtain ⟨k0, k1, k2, k3, k4, k5, k6, k7, k8, k9⟩ := hK1.df.scCa hic hg'
     have HIC := hid hic
     clear hr hw5 CS1 hK1 hg' hic
     go_wp2_with fail
     refine CSY.out.mono ?_
     rintro e w6 ⟨rfl, hw6⟩
     obtain rfl : wr = w6 := hw6.symm
     clear hw6 CSY
     cases hsy : sy (abs L1) k with
     | false =>
      rw [HKST1.out L1 A1 k c HCC.out hsy] at HFT
      go_wp2
      go_roundw
      case rel => exact ⟨j + 1, by go_num, by omega, L1, by rw [HFT.out]; exact HK1.out, by rw [HFT.out], HB1.out⟩
      case measure => simp [numOf]; omega
     | true =>
      have HST := hid (HKST2.out L1 A1 k c HCC.out HK0.out hsy)
      clear hsy
      go_wp2_with fail
      refine CNO.out.mono ?_
      rintro e w7 ⟨rfl, hb7⟩
      have HK7 := hid (HK1.out.on hb7)
      have HB7 := hid (HB1.out.on hb7)
      have HOK7 := hid (HOKC.out.on hb7)
      have d7 : w7.cell? ⟨g, ic' * 33, none⟩ = some (.int .i64 k) := HK7.out.df.at_ HIC.out HG.out (j := 0) (by omega)
      clear hb7 CNO d0 k0 k1 k2 k3 k4 k5 k6 k7 k8 k9 HK1 HB1 HOKC ck c2
      go_upto_if 52 with fail
      go_cut [1] (fun vv wc => ∃ L2 A2, Kw base X q v B wc L2 vv A2 ∧ (non c.ca.q = true ∧ abs L2 = abs L1 ∧ A2 = A1 ∨ non c.ca.q = false ∧ abs L2 = upd (abs L1) k aplS ∧ A2 = A1 ++ [k]) ∧ Kb v vl u vv wc ∧ wc.cell? ⟨g, ic' * 33, none⟩ = some (.int .i64 k))
      case first =>
       cases hno : non c.ca.q with
       | true =>
        go_wp2
        go_meet
        exact ⟨L1, A1, HK7.out, .inl ⟨hno, rfl, rfl⟩, HB7.out, d7⟩
       | false =>
        go_upto_region 8 with fail
        refine wp_region_gate_drew (g := 12) (S := fun uu => RowKit.Below w7.heap.size w7 uu) (by kernel_rfl) ?hh (fun hHeld => ?_)
        case hh => exact ((Below.refl _ _).drew)
        generalize World.drew _ = W0 at hHeld ⊢
        try dsimp only at hHeld
        refine wpAnyG_takeFree (i := 0) (v := ?_) rfl (by kernel_rfl) (by kernel_rfl) (by kernel_rfl) (by kernel_rfl) (fun _ _ _ h => h) (Or.inl ⟨by kernel_rfl, ?hy0⟩) (by assumption) ?_
        case hy0 => (intro wI _; go_simp; try with_reducible rfl)
        try simp only [Act.put, lqA, lqB, lqD, lqE, lqF]
        refine wpAnyG_take (i := 1) (v := ?_) rfl (by kernel_rfl) (by kernel_rfl) (by kernel_rfl) (by kernel_rfl) (fun _ _ _ h => h) (Or.inl ⟨by kernel_rfl, ?hy1⟩) (by assumption) ?_
        case hy1 => (intro wI hSw; (try dsimp only at hSw); go_simp; try with_reducible rfl)
        try simp only [Act.put, lqA, lqB, lqC, lqD, lqE, lqF]
        refine wpAnyG_take (i := 2) (v := ?_) rfl (by kernel_rfl) (by kernel_rfl) (by kernel_rfl) (by kernel_rfl) (fun _ _ _ h => h) (Or.inl ⟨by kernel_rfl, ?hy2⟩) (by assumption) ?_
        case hy2 => (intro wI hSw; (try dsimp only at hSw); go_simp; try with_reducible rfl)
        try simp only [Act.put, lqA, lqB, lqC, lqD, lqE, lqF]
        refine wpAnyG_take (i := 3) (v := ?_) rfl (by kernel_rfl) (by kernel_rfl) (by kernel_rfl) (by kernel_rfl) (fun _ _ _ h => h) (Or.inl ⟨by kernel_rfl, ?hy3⟩) (by assumption) ?_
        case hy3 => (intro wI hSw; (try dsimp only at hSw); go_simp; try with_reducible rfl)
        try simp only [Act.put, lqA, lqB, lqC, lqD, lqE, lqF]
        refine wpAnyG_take (i := 4) (v := ?_) rfl (by kernel_rfl) (by kernel_rfl) (by kernel_rfl) (by kernel_rfl) (fun _ _ _ h => h) (Or.inl ⟨by kernel_rfl, ?hy4⟩) (by assumption) ?_
        case hy4 => (intro wI hSw; (try dsimp only at hSw); obtain ⟨k0, k1, k2, k3, k4, k5, k6, k7, k8, k9⟩ := (HK7.out.df.on hSw).scNo HIC.out HG.out; go_simp; try with_reducible rfl)
        try simp only [Act.put, lqA, lqB, lqC, lqD, lqE, lqF]
        refine wpAnyG_take (i := 5) (v := ?_) rfl (by kernel_rfl) (by kernel_rfl) (by kernel_rfl) (by kernel_rfl) (fun _ _ _ h => h) (Or.inl ⟨by kernel_rfl, ?hy5⟩) (by assumption) ?_
        case hy5 => (intro wI hSw; (try dsimp only at hSw); go_simp; try with_reducible rfl)
        try simp only [Act.put, lqA, lqB, lqC, lqD, lqE, lqF]
        refine wpAnyG_take (i := 6) (v := ?_) rfl (by kernel_rfl) (by kernel_rfl) (by kernel_rfl) (by kernel_rfl) (fun _ _ _ h => h) (Or.inl ⟨by kernel_rfl, ?hy6⟩) (by assumption) ?_
        case hy6 => (intro wI hSw; (try dsimp only at hSw); go_simp; try with_reducible rfl)
        try simp only [Act.put, lqA, lqB, lqC, lqD, lqE, lqF]
        refine wpAnyG_take (i := 7) (v := ?_) rfl (by kernel_rfl) (by kernel_rfl) (by kernel_rfl) (by kernel_rfl) (fun _ _ _ h => h) (Or.inl ⟨by kernel_rfl, ?hy7⟩) (by assumption) ?_
        case hy7 => (intro wI hSw; (try dsimp only at hSw); go_simp; try with_reducible rfl)
        try simp only [Act.put, lqA, lqB, lqC, lqD, lqE, lqF]
        refine wpAnyG_take (i := 8) (v := ?_) rfl (by kernel_rfl) (by kernel_rfl) (by kernel_rfl) (by kernel_rfl) (fun _ _ _ h => h) (Or.inl ⟨by kernel_rfl, ?hy8⟩) (by assumption) ?_
        case hy8 => (intro wI hSw; (try dsimp only at hSw); obtain ⟨k0, k1, k2, k3, k4, k5, k6, k7, k8, k9⟩ := (HK7.out.df.on hSw).scCa HIC.out HG.out; go_simp; try with_reducible rfl)
        try simp only [Act.put, lqA, lqB, lqC, lqD, lqE, lqF]
        refine wpAnyG_ready (rs := [9]) (by kernel_rfl) (by simp) ?_
        refine AllReadyG.cons rfl (fun K hK => ?_) AllReadyG.nil
        go_simp
        go_wp2_with fail
        refine (rapply_any c.no c.ca _ (HOK7.out.no.on hHeld) (HOK7.out.ca.on hHeld) HL3.out HL2.out).mono ?_
        rintro e W9 ⟨r, rfl, okr, hnr, hqr, hb⟩
        have OKR := hid okr
        have HNR := hid (hnr.low hHeld.size)
        have HQR := hid hqr
        replace hHeld := Below.on hHeld hb
        refine hK.out _ _ hHeld (fun _ => ?_)
        clear hK K hb okr hnr hqr
        try simp only [Act.put, lqA, lqB, lqC, lqD, lqE, lqF]
        refine wpAnyG_take (i := 10) (v := ?_) rfl (by kernel_rfl) (by kernel_rfl) (by kernel_rfl) (by kernel_rfl) (fun _ _ _ h => h) (Or.inl ⟨by kernel_rfl, ?hy10⟩) (by assumption) ?_
        case hy10 => (intro wI hSw; (try dsimp only at hSw); go_simp; try with_reducible rfl)
        try simp only [Act.put, lqA, lqB, lqC, lqD, lqE, lqF]
        refine wpAnyG_take (i := 11) (v := ?_) rfl (by kernel_rfl) (by kernel_rfl) (by kernel_rfl) (by kernel_rfl) (fun _ _ _ h => h) (Or.inl ⟨by kernel_rfl, ?hy11⟩) (by assumption) ?_
        case hy11 => (intro wI hSw; (try dsimp only at hSw); go_simp; try with_reducible rfl)
        try simp only [Act.put, lqA, lqB, lqC, lqD, lqE, lqF]
        have hG := hHeld
        clear hHeld
        have hHeld : True := trivial
        refine wpAnyG_gateOp rfl (by kernel_rfl) (fun K hK => ?_)
        have hN := HK7.out.apl hG HIC.out HG.out HCC.out HND.out OKR.out HNR.out HQR.out
        have hD := HK7.out.df.on hG
        obtain ⟨k0, k1, k2, k3, k4, k5, k6, k7, k8, k9⟩ := hD.scNo HIC.out HG.out
        have fz := hD.fz HG.out
        go_simp
        refine hK.out _ _ trivial (fun _ => ?_)
        clear hK K k0 k1 k2 k3 k4 k5 k6 k7 k8 k9 fz hD
        change wpAnyH _ _ _ _ _ _ _ _ (sto W9 g (ic' * 33 + 23) r)
        generalize sto W9 g (ic' * 33 + 23) r = W12 at *
        try simp only [Act.put, lqA, lqB, lqC, lqD, lqE, lqF]
        refine wpAnyH_done (by kernel_rfl) ?_ _
        obtain ⟨D2, hi2, K4, habs, hKb⟩ := hN
        obtain ⟨k0, k1, k2, k3, k4, k5, k6, k7, k8, k9⟩ := D2.scCa hi2 HG.out
        have fz := D2.fz HG.out
        obtain ⟨WZ, hWZ⟩ : ∃ WZ, WZ = (((((((((W12.setCell ⟨g, ic' * 33 + 13, none⟩ (.bool false)).setCell ⟨g, ic' * 33 + 13 + 1, none⟩ (.int .i64 0)).setCell ⟨g, ic' * 33 + 13 + 2, none⟩ (.slice none 0 0)).setCell ⟨g, ic' * 33 + 13 + 3, none⟩ (.slice none 0 0)).setCell ⟨g, ic' * 33 + 13 + 4, none⟩ (.bool false)).setCell ⟨g, ic' * 33 + 13 + 5, none⟩ (.bool false)).setCell ⟨g, ic' * 33 + 13 + 6, none⟩ (.slice none 0 0)).setCell ⟨g, ic' * 33 + 13 + 7, none⟩ (.bool false)).setCell ⟨g, ic' * 33 + 13 + 8, none⟩ (.slice none 0 0)).setCell ⟨g, ic' * 33 + 13 + 9, none⟩ (.slice none 0 0) := ⟨_, rfl⟩
        have hK4 : Kw base X q v B WZ (L1.set ic' (k, aplR r c)) u1 A1 := by rw [hWZ]; exact K4
        have hKb4 : Kb v u1 w7 u1 WZ := by rw [hWZ]; exact hKb
        have hi4 : (L1.set ic' (k, aplR r c))[ic']? = some (k, aplR r c) := List.getElem?_set_self (List.getElem?_eq_some_iff.1 HIC.out).1
        have d4 : WZ.cell? ⟨g, ic' * 33, none⟩ = some (.int .i64 k) := hK4.df.at_ hi4 HG.out (j := 0) (by omega)
        have hb4 : RowKit.Below WZ.heap.size WZ (WZ.alloc (.cells #[.int .i64 k] 3)) := bel_new _ _
        have HOW := hid (hK4.on hb4).row
        have HSL := hid (srcLit WZ k)
        have hws := (hK4.on hb4).le
        have HAPP : Hid (∀ v3 w3, w3.ownsRow B 3 1 v3 (A1.length + 1) (ic A1 ++ ic [k]) → (WZ.alloc (.cells #[.int .i64 k] 3)).grownBy w3 u1.ownBlock → (v3.ownBlock = u1.ownBlock ∨ v3.ownBlock = some (WZ.alloc (.cells #[.int .i64 k] 3)).heap.size) → Kw base X q v B w3 (L1.set ic' (k, aplR r c)) v3 (A1 ++ [k]) ∧ Kb v vl u v3 w3 ∧ w3.cell? ⟨g, ic' * 33, none⟩ = some (.int .i64 k)) := fun v3 w3 o3 g3 a3 => by
         obtain ⟨h5, h6⟩ := hK4.app k o3 g3 a3
         exact ⟨h5, HB7.out.trans (hKb4.trans h6), h5.df.at_ hi4 HG.out (j := 0) (by omega)⟩
        clear D2 hi2 K4 hKb hKb4 hi4 hK4 hb4
        have HABS := hid habs
        clear habs d7
        go_upto_region 10 with fail
        rw [← hWZ]
        clear hWZ k0 k1 k2 k3 k4 k5 k6 k7 k8 k9 fz
        generalize A1.length = m9 at *
        go_wp2_with (at_builtin; refine wpList_append_own_at _ rfl (.tmp 69) (.tmp 74) 63 63 rfl B 3 i0 (.int .i64 0) 1 8 Tryz.underlying63 hi hz0 hz1 hz2 rfl _ _ _ rfl HOW.out _ _ _ rfl HSL.out (by simp only [maxLen]; omega) (fitsZ (by omega)) hws ?_; intro v3 w3 o3 g3 a3; obtain ⟨h5, h6, h7⟩ := HAPP.out _ _ o3 g3 a3; have HK5 := hid h5; have HB5 := hid h6; clear o3 g3 a3 h5 h6)
        go_meet
        exact ⟨_, _, HK5.out, .inr ⟨by first | exact hno | rfl, HABS.out, rfl⟩, HB5.out, h7⟩
      case rest =>
       obtain ⟨L2, A2, hK2, h2, hb2, d2⟩ := hcut
       have hkk := HST.out L2 A2 h2
       rw [hkk] at HFT
       have CRE := hid (HREC.out L1 A1 j k HF.out hlen HKJ.out HK0.out _ L2 _ A2 hK2 (h2.imp (fun h => ⟨h.2.1, h.2.2⟩) (fun h => ⟨h.2.1, h.2.2⟩)))
       have HB2 := hid hb2
       clear hkk hK2 h2 hb2 HST HK7 HB7 HOK7 d7
       go_wp2_with fail
       refine CRE.out.mono ?_
       rintro e w9 ⟨v9, L9, rfl, hK9, ha9, hb9⟩
       rw [← HFT.out] at hK9 ha9
       have HK9 := hid hK9
       have HA9 := hid ha9
       have HB9 := hid (HB2.out.trans hb9)
       clear hK9 ha9 hb9 CRE HB2
       go_wp2
       go_roundw
       case rel => exact ⟨j + 1, by go_num, by omega, L9, HK9.out, HA9.out, HB9.out⟩
       case measure => simp [numOf]; omega
   ·have e1 : decide ((j : Int) < N) = false := decide_eq_false (by omega)
    obtain rfl : j = N := by omega
    rw [List.take_of_length_le (by rw [HLN.out]; exact Nat.le_refl _), ← HFIN.out] at hK1 ha1
    have HE : Hid (KdR base X q v B u vl (kds (n + 1) (abs L) x acc) (.returned _) wr) := ⟨_, L1, rfl, hK1, ha1, hb1⟩
    clear hK1 ha1 hb1 hF
    go_wp2
    go_ret
    exact HE.out
end
end Go.Proofs.YtkjempffidndeaaGreatDoor
