/- Lemmas that the proof leans on. -/
import Derived.Test.YtkjempffidndeaaGreatDoorB22
import Derived.Laws.EntriesVeiled
namespace Go.Proofs.YtkjempffidndeaaGreatDoor
open Go Go.RowKit
set_option maxRecDepth 100000
set_option maxHeartbeats 4000000
section
theorem Nok.tre {L L1 : Po} (h : Nok L) (ht : Tre (pab L) (pab L1)) : Nok L1 := by
 have hk : ∀ {L : Po} x e, gt L x = some e → gt (pab L) x = some e.s.f := fun x e he => by rw [gt_pab, he]; rfl
 have hb : ∀ {L2 L3 : Po}, Tre (pab L2) (pab L3) → ∀ x e, gt L3 x = some e → ∃ e', gt L2 x = some e' ∧ e'.s.par = e.s.par := fun ht x e he => by
  obtain ⟨t, h1, h2, _⟩ := ht.symm.some (hk x e he)
  rw [gt_pab] at h1
  obtain ⟨e', he', rfl⟩ := Option.map_eq_some_iff.1 h1
  exact ⟨e', he', h2⟩
 refine ⟨ht.acy h.acy, ?_, fun x e he => ?_, fun x e he => ?_⟩
 ·have := ht.none (x := 0) (by rw [gt_pab, h.zero]; rfl)
  rw [gt_pab] at this
  exact Option.map_eq_none_iff.1 this
 ·obtain ⟨e', he', hp⟩ := hb ht x e he
  rcases h.par x e' he' with h0 | h0
  ·exact .inl (by rw [← hp, h0])
  ·obtain ⟨e2, he2⟩ := Option.isSome_iff_exists.1 h0
   rw [hp] at he2
   obtain ⟨e3, he3, _⟩ := hb ht.symm _ e2 he2
   exact .inr (by rw [he3]; rfl)
 ·obtain ⟨e', he', hp⟩ := hb ht x e he
  have := h.key x e' he'
  exact ⟨this.1, by rw [← hp]; exact this.2⟩
theorem own_val {w : World} {B T s n : Nat} {v : Value} {xs : List Value} (h : w.ownsRow B T s v n xs) : ∃ a c, v = .slice a n c := by
 rcases h.2 with ⟨rfl, rfl⟩ | ⟨g, cap, cur, rfl, _⟩
 ·exact ⟨_, _, rfl⟩
 ·exact ⟨_, _, rfl⟩
variable {base B : Nat} {w u w' : World} {p m : Nat} {L L' : Po} {F : Fo} {cf ca cb : Nat} {vl : Value} {es : List Addr}
def fvB (cf ca cb : Nat) : Value := .func (.func 109) #[] #[.pointer (some ⟨cf, 0, none⟩), .pointer (some ⟨ca, 0, none⟩), .pointer (some ⟨cb, 0, none⟩)]
abbrev Kab (base B : Nat) (w : World) (p m : Nat) (L : Po) (cf ca cb : Nat) (vl : Value) (A : List Int) : Prop := Ka base B w p m L cf ca cb 148 (fvB cf ca cb) 63 3 1 vl A.length (ic A)
def KbR (base B : Nat) (p m : Nat) (cf ca cb : Nat) (u : World) (L : Po) (vl : Value) (r : Fo × List Int) (e' : Ending) (w' : World) : Prop := e' = .returned undef ∧ ∃ L' vl', Kab base B w' p m L' cf ca cb vl' r.2 ∧ pab L' = r.1 ∧ Kr m ca u L vl w' L' vl'
theorem fwaits_any {mm : Nat} (hm : mm ≤ 900) (hB : 16 ≤ base) : ∀ (n : Nat) (x : Int) (u : World) (L : Po) (vl : Value) (A : List Int) (e : Ps), Kab base B u p m L cf ca cb vl A → Fe u es → Inv (pab L) → Nof (pab L) → Szf mm (pab L) → Nok L → gt L x = some e → 40 ≤ n + dpt (pab L) x → n ≤ 41 → A.length + 100 * n ≤ 100000 →
  Calls Tryz.prog 109 (#[.pointer (some ⟨e.g, 0, none⟩)] ++ #[.pointer (some ⟨cf, 0, none⟩), .pointer (some ⟨ca, 0, none⟩), .pointer (some ⟨cb, 0, none⟩)]) u (KbR base B p m cf ca cb u L vl (kds (n + 1) (pab L) x A)) := by
 intro n
 induction n using Nat.strongRecOn with
 | ind n ih =>
  intro x u L vl A e hK hE hI hN hZ hNk hs hd hn hacc
  have eg := enters_of Tryz.func109 (by kernel_rfl) rfl
  obtain ⟨i0, hi, hz0, hz1, hz2⟩ := infoMP infoM1
  have hsa : gt (pab L) x = some e.s.f := by rw [gt_pab, hs]; rfl
  obtain ⟨od, hod⟩ : ∃ od, od = un1 e.s.no.od.l := ⟨_, rfl⟩
  obtain ⟨N, hNN⟩ : ∃ N, N = e.s.no.od.n := ⟨_, rfl⟩
  obtain ⟨oa, hoa⟩ : ∃ oa, oa = e.s.no.od.a := ⟨_, rfl⟩
  obtain ⟨oc, hoc⟩ : ∃ oc, oc = e.s.no.od.c := ⟨_, rfl⟩
  have HFIN : Hid (kds (n + 1) (pab L) x A = od.foldl (kst n) (pab L, A)) := by rw [Hid, kds_succ, hsa, hod]; rfl
  have HFLD : Hid (∀ j, Fld (pab L) mm ((od.take j).foldl (kst n) (pab L, A)).1 ∧ ((od.take j).foldl (kst n) (pab L, A)).2.length ≤ A.length + 40) := fun j => by rw [hod]; exact fld_len hI hN hZ hsa A j
  have HRZ : Hid (∀ u1 L1 vl1, Kr m ca u L vl u1 L1 vl1 → Rz u1 oa N oc od) := fun u1 L1 vl1 hk => by
   rw [hod, hNN, hoa, hoc]
   exact rz_of_rdm (hk.rd hK hs (by simp [ros]) (hK.pf.rows x e hs).ok.no.od)
  have hN63 := (HRZ.out _ _ _ (Kr.refl (Below.refl _ _))).small.1
  have HLN := hid (HRZ.out _ _ _ (Kr.refl (Below.refl _ _))).len
  have HBT : Hid (∀ j k, od[j]? = some k → Bt k) := fun j k hj => by
   by_cases hk0 : k = 0
   ·rw [hk0]
    exact bt0
   ·obtain ⟨c0, hc0, _⟩ := hI.kid x e.s.f hsa k (.inr (.inr (by show k ∈ un1 e.s.no.od.l; rw [← hod]; exact List.mem_of_getElem? hj))) hk0
    rw [gt_pab] at hc0
    obtain ⟨e0, he0, _⟩ := Option.map_eq_some_iff.1 hc0
    exact (hNk.key k e0 he0).1
  have HFE : Hid (∀ u1 L1 vl1, Kr m ca u L vl u1 L1 vl1 → Fe u1 es) := fun u1 L1 vl1 hk => hE.kb (hk.bel hK) hB
  have HREC : Hid (∀ (L1 : Po) (A1 : List Int) (j : Nat) (k : Int), Fld (pab L) mm (pab L1) → A1.length ≤ A.length + 40 → od[j]? = some k → k ≠ 0 → ∀ (wc : World) (L2 : Po) (vv : Value) (A2 : List Int) (e2 : Ps), Kab base B wc p m L2 cf ca cb vv A2 → Kr m ca u L vl wc L2 vv → gt L2 k = some e2 → (pab L2 = pab L1 ∧ A2 = A1 ∨ pab L2 = upd (pab L1) k aplS ∧ A2 = A1 ++ [k]) → Calls Tryz.prog 109 (#[.pointer (some ⟨e2.g, 0, none⟩)] ++ #[.pointer (some ⟨cf, 0, none⟩), .pointer (some ⟨ca, 0, none⟩), .pointer (some ⟨cb, 0, none⟩)]) wc (KbR base B p m cf ca cb wc L2 vv (kds n (pab L2) k A2))) := fun L1 A1 j k hF hl1 hj hk0 wc L2 vv A2 e2 hK2 hKr hg2 h2 => by
   obtain ⟨c0, hc0, hpar⟩ := hI.kid x e.s.f hsa k (.inr (.inr (by show k ∈ un1 e.s.no.od.l; rw [← hod]; exact List.mem_of_getElem? hj))) hk0
   have hdk := dpt_lt hI.acy hc0
   rw [hpar] at hdk
   have hdl := dpt_le (pab L) k
   have hFl := hI.len
   obtain ⟨n', rfl⟩ : ∃ n', n = n' + 1 := ⟨n - 1, by omega⟩
   have hall : Fld (pab L) mm (pab L2) ∧ A2.length ≤ A.length + 41 := by
    rcases h2 with ⟨e1, e2⟩ | ⟨e1, e2⟩
    ·rw [e1, e2]
     exact ⟨hF, by omega⟩
    ·rw [e1, e2]
     exact ⟨⟨hF.inv.apls k, hF.nof.turn _ _ fun s _ hs => hs.apls, hF.szf.turn (Nat.le_refl mm) _ _ fun s hs => hs.apls, hF.tre.trans (tre_upd _ k aplS (fun _ => ⟨rfl, rfl⟩))⟩, by rw [List.length_append]; simp; omega⟩
   obtain ⟨hF2, hl2⟩ := hall
   have hd2 := hF2.tre.dpt k
   exact ih n' (by omega) k wc L2 vv A2 e2 hK2 (hE.kb (hKr.bel hK) hB) hF2.inv hF2.nof hF2.szf (hNk.tre hF2.tre) hg2 (by omega) (by omega) (by omega)
  have HKST0 : Hid (∀ (L1 : Po) (A1 : List Int) (k : Int), sy (pab L1) k = false → kst n (pab L1, A1) k = (pab L1, A1)) := fun L1 A1 k h1 => by
   unfold kst
   cases gt (pab L1) k with
   | none => rfl
   | some c => exact if_pos (.inr h1)
  have HKST2 : Hid (∀ (L1 : Po) (A1 : List Int) (k : Int) (c : Ps), gt L1 k = some c → k ≠ 0 → sy (pab L1) k = true → ∀ (L2 : Po) (A2 : List Int), (non c.s.ca.q = true ∧ pab L2 = pab L1 ∧ A2 = A1 ∨ non c.s.ca.q = false ∧ pab L2 = upd (pab L1) k aplS ∧ A2 = A1 ++ [k]) → kst n (pab L1, A1) k = kds n (pab L2) k A2) := fun L1 A1 k c h h0 h1 L2 A2 h2 => by
   unfold kst
   rw [gt_pab, h]
   show (if k = 0 ∨ sy (pab L1) k = false then _ else if non c.s.ca.q then _ else _) = _
   rw [if_neg (by rw [h1]; simp [h0])]
   rcases h2 with ⟨e, e1, e2⟩ | ⟨e, e1, e2⟩
   ·rw [e, e1, e2]; rfl
   ·rw [e, e1, e2]; rfl
  have HNK : Hid (∀ L1, Tre (pab L) (pab L1) → Nok L1) := fun L1 ht => hNk.tre ht
  have HK := hid hK
  have c28 : u.cell? ⟨e.g, 28, none⟩ = some (.slice oa N oc) := by rw [hNN, hoa, hoc]; exact hK.pf.cell hs
  have hlt := (hK.pf.wlt hs (mem_wb.2 (.inl rfl))).2
  clear hK hE hI hN hZ hNk hs hsa hod hNN hoa hoc ih hd hn
  go_enter Tryz.func109, Tryz.ntmps109
  go_wp2
  go_loopw [14] (fun i wr => ∃ j : Nat, i = .int .i64 j ∧ j ≤ N ∧ ∃ L1 vv, Kab base B wr p m L1 cf ca cb vv ((od.take j).foldl (kst n) (pab L, A)).2 ∧ pab L1 = ((od.take j).foldl (kst n) (pab L, A)).1 ∧ Kr m ca u L vl wr L1 vv) (fun i _ => N - (numOf i).toNat)
  case atStart => exact ⟨0, rfl, by omega, L, vl, HK.out, rfl, Kr.refl (Below.refl _ _)⟩
  case round =>
   obtain ⟨j, rfl, hj, L1, vv, hK1, ha1, hb1⟩ := hrel
   obtain ⟨hF, hlen⟩ := HFLD.out j
   clear c28 hlt
   by_cases hgo : j < N
   ·have e1 : decide ((j : Int) < N) = true := decide_eq_true (by omega)
    have e2 : (j : Int) < N := by omega
    obtain ⟨bl, off, k, ha, _, hk, ck⟩ := (HRZ.out _ _ _ hb1).at_ (j := j) hgo
    have HFT := hid (fold_take hk (kst n) (pab L, A))
    obtain ⟨⟨F1, A1⟩, hr1⟩ : ∃ r1, r1 = (od.take j).foldl (kst n) (pab L, A) := ⟨_, rfl⟩
    rw [← hr1] at hK1 ha1 hF hlen HFT
    dsimp only at hK1 ha1 hF hlen
    subst ha1
    subst ha
    have HKJ := hid hk
    have hNk1 := HNK.out L1 hF.tre
    have CSY := hid (fsynced_one (HFE.out _ _ _ hb1) hK1.pf hNk1 k (HBT.out j k hk))
    have HK1 := hid hK1
    have HB1 := hid hb1
    have HF := hid hF
    have f1 : wr.cell? ⟨cf, 0, none⟩ = some (.pointer (some ⟨p, 0, none⟩)) := hK1.kf.cell 0
    have f2 := hK1.kf.lt
    clear hr1
    cases hsy : sy (pab L1) k with
    | false =>
     rw [hsy] at CSY
     rw [HKST0.out L1 A1 k hsy] at HFT
     have HX : Hid (∀ q, Kab base B (wr.drewN q) p m L1 cf ca cb vv A1 ∧ Kr m ca u L vl (wr.drewN q) L1 vv) := fun q => ⟨hK1.on (below_drewN (Below.refl _ _) q), hb1.trans (Kr.refl (below_drewN (Below.refl _ _) q))⟩
     clear hk hF hb1 hK1 hsy hNk1
     go_wp2_with fail
     refine CSY.out.mono ?_
     rintro e' w6 ⟨rfl, q6, rfl⟩
     have HY := hid (HX.out q6)
     go_wp2
     go_roundw
     case rel => exact ⟨j + 1, by go_num, by omega, L1, vv, by rw [HFT.out]; exact HY.out.1, by rw [HFT.out], HY.out.2⟩
     case measure => simp [numOf]; omega
    | true =>
     rw [hsy] at CSY
     obtain ⟨c, hc⟩ : ∃ c, gt L1 k = some c := by
      cases hc : gt L1 k with
      | some c => exact ⟨c, rfl⟩
      | none =>
       rw [sy_none (by rw [gt_pab, hc]; rfl)] at hsy
       cases hsy
     have hk0 : k ≠ 0 := fun e0 => by
      rw [e0, hNk1.zero] at hc
      cases hc
     have HST := hid (HKST2.out L1 A1 k c hc hk0 hsy)
     have hokc := (hK1.pf.rows k c hc).ok
     obtain ⟨-, l2, l3⟩ := zs_len (HF.out.szf k c.s.f (by rw [gt_pab, hc]; rfl)) hokc hm
     have HK0 := hid hk0
     have HP : Hid (∀ W : World, Below wr.heap.size wr W → (Instr.lookup 95 (.map (some m)) (.int .i64 k) false).run Tryz.prog W = .ok (.pointer (some ⟨c.g, 0, none⟩)) W ∧ W.cell? ⟨p, 0, none⟩ = some (.map (some m)) ∧ p < W.heap.size ∧ c.g < W.heap.size) := fun W hW => by
      have h1 := hK1.pf.on hW
      have h2 := h1.run (k := k) (HBT.out j k hk)
      rw [pto, hc] at h2
      exact ⟨h2, h1.c0, h1.lt.1, (h1.wlt hc (mem_wb.2 (.inl rfl))).2⟩
     have HCC : Hid (∀ W : World, Below wr.heap.size wr W → (W.cell? ⟨c.g, 10, none⟩ = some (.bool c.s.ca.at_) ∧ W.cell? ⟨c.g, 11, none⟩ = some (.int .i64 c.s.ca.buf) ∧ W.cell? ⟨c.g, 12, none⟩ = some (.slice c.s.ca.dm.a c.s.ca.dm.n c.s.ca.dm.c) ∧ W.cell? ⟨c.g, 13, none⟩ = some (.slice c.s.ca.fr.a c.s.ca.fr.n c.s.ca.fr.c) ∧ W.cell? ⟨c.g, 14, none⟩ = some (.bool c.s.ca.inp) ∧ W.cell? ⟨c.g, 15, none⟩ = some (.bool c.s.ca.all) ∧ W.cell? ⟨c.g, 16, none⟩ = some (.slice c.s.ca.rg.a c.s.ca.rg.n c.s.ca.rg.c) ∧ W.cell? ⟨c.g, 17, none⟩ = some (.bool c.s.ca.ord) ∧ W.cell? ⟨c.g, 18, none⟩ = some (.slice c.s.ca.od.a c.s.ca.od.n c.s.ca.od.c) ∧ W.cell? ⟨c.g, 19, none⟩ = some (.slice c.s.ca.pl.a c.s.ca.pl.n c.s.ca.pl.c)) ∧ c.s.ca.Ok W) := fun W hW => ⟨((hK1.pf.on hW).cells hc).2.1, ((hK1.pf.on hW).rows k c hc).ok.ca⟩
     have HAP : Hid (∀ W : World, Below wr.heap.size wr W → Calls Tryz.prog 63 #[.pointer (some ⟨c.g, 0, none⟩)] W fun e' w' => e' = .returned undef ∧ ∃ L2, Kab base B w' p m L2 cf ca cb vv A1 ∧ Kr m ca u L vl w' L2 vv ∧ pab L2 = upd (pab L1) k aplS ∧ ∃ c2 : Ps, gt L2 k = some c2 ∧ c2.g = c.g) := fun W hW => by
      have hKW := hK1.on hW
      refine (fapply_any hKW.pf hc l2 l3).mono fun e' w' ⟨h1, r, _, hR⟩ => ⟨h1, _, hKW.pfr hR, (hb1.trans (Kr.refl hW)).trans (Kr.pfr hR), hR.ab, ⟨c.g, { c.s with no := r, ca := sx0 }⟩, ?_, rfl⟩
      rw [gt_st, if_pos rfl, hc]
      rfl
     have HX : Hid (∀ W, Below wr.heap.size wr W → Kab base B W p m L1 cf ca cb vv A1 ∧ Kr m ca u L vl W L1 vv) := fun W hW => ⟨hK1.on hW, hb1.trans (Kr.refl hW)⟩
     have HCG := hid hc
     clear hk hF hb1 hK1 hsy hNk1 hk0 hokc l2 l3 hc HK1 HB1
     go_wp2_with fail
     refine CSY.out.mono ?_
     rintro e' w6 ⟨rfl, q6, hw6⟩
     have hb6 : Below wr.heap.size wr w6 := by rw [hw6]; exact below_drewN (Below.refl _ _) q6
     obtain ⟨t1, t2, t3, t4⟩ := HP.out _ hb6
     obtain ⟨⟨a0, a1, a2, a3, a4, a5, a6, a7, a8, a9⟩, okc⟩ := HCC.out _ hb6
     have f3 : w6.cell? ⟨cf, 0, none⟩ = some (.pointer (some ⟨p, 0, none⟩)) := (HX.out _ hb6).1.kf.cell 0
     have f4 := (HX.out _ hb6).1.kf.lt
     have CNO := hid (none_any c.s.ca w6 okc)
     have HB6 := hid hb6
     clear hw6 hb6 CSY okc HP HCC f1 f2 ck
     go_wp2_with fail
     refine CNO.out.mono ?_
     rintro e' w7 ⟨rfl, hb7⟩
     have HB7 := hid (Below.on HB6.out hb7)
     clear hb7 CNO t1 t2 t3 t4 a0 a1 a2 a3 a4 a5 a6 a7 a8 a9 f3 f4 HB6
     go_upto_if 33 with fail
     go_cut [] (fun wc => ∃ L2 vv2 A2, Kab base B wc p m L2 cf ca cb vv2 A2 ∧ (non c.s.ca.q = true ∧ pab L2 = pab L1 ∧ A2 = A1 ∨ non c.s.ca.q = false ∧ pab L2 = upd (pab L1) k aplS ∧ A2 = A1 ++ [k]) ∧ Kr m ca u L vl wc L2 vv2 ∧ ∃ c2 : Ps, gt L2 k = some c2 ∧ c2.g = c.g)
     case first =>
      cases hno : non c.s.ca.q with
      | true =>
       go_wp2
       go_meet
       exact ⟨L1, vv, A1, (HX.out _ HB7.out).1, .inl ⟨hno, rfl, rfl⟩, (HX.out _ HB7.out).2, c, HCG.out, rfl⟩
      | false =>
       go_wp2_with fail
       refine (HAP.out _ HB7.out).mono ?_
       rintro e' w8 ⟨rfl, L2, hK8, hKr8, hab8, hc8⟩
       have h9 := bel_new w8 (.cells #[.int .i64 k] 3)
       have hK9 := hK8.on h9
       have HKR := hid (hKr8.trans (Kr.refl h9))
       have HAB := hid hab8
       have HC8 := hid hc8
       have d1 : w8.cell? ⟨ca, 0, none⟩ = some vv := hK8.ka.cell 0
       have d2 := hK8.ka.lt
       obtain ⟨va, vc, hvv⟩ := own_val hK8.row
       have HOW := hid hK9.row
       have HSL := hid (srcLit w8 k)
       have hws : B ≤ (w8.alloc (.cells #[.int .i64 k] 3)).heap.size := by
        have h1 := (hK9.ext ca (by simp)).2.2.2.2
        have h2 := hK9.ka.lt
        omega
       have HAPP : Hid (∀ v3 w3, w3.ownsRow B 3 1 v3 (A1.length + 1) (ic A1 ++ ic [k]) → (w8.alloc (.cells #[.int .i64 k] 3)).grownBy w3 vv.ownBlock → (v3.ownBlock = vv.ownBlock ∨ v3.ownBlock = some (w8.alloc (.cells #[.int .i64 k] 3)).heap.size) → ∃ a c, v3 = .slice a (A1.length + 1) c ∧ w3.cell? ⟨ca, 0, none⟩ = some vv ∧ (∀ j, w3.frozen? ⟨ca, j, none⟩ = false) ∧ ca < w3.heap.size ∧ ∃ W4, W4 = w3.setCell ⟨ca, 0, none⟩ (.slice a (A1.length + 1) c) ∧ Kab base B W4 p m L2 cf ca cb v3 (A1 ++ [k]) ∧ Kr m ca u L vl W4 L2 v3) := fun v3 w3 o3 g3 a3 => by
        obtain ⟨a, c, hv3⟩ := own_val o3
        obtain ⟨k1, k2, k3, k4, k5, -⟩ := hK9.app o3 g3 a3
        refine ⟨a, c, hv3, k1, k2, k3, _, rfl, ?_, ?_⟩
        ·rw [← hv3]
         show Ka _ _ _ _ _ _ _ _ _ _ _ _ _ _ _ (A1 ++ [k]).length (ic (A1 ++ [k]))
         rw [ic_append, List.length_append]
         exact k4
        ·rw [← hv3]
         exact HKR.out.trans k5
       subst hvv
       clear hK8 hK9 hKr8 hab8 hc8 h9
       generalize A1.length = m9 at *
       go_wp2_with (at_builtin; refine wpList_append_own_at _ rfl (.tmp 36) (.tmp 38) 63 63 rfl B 3 i0 (.int .i64 0) 1 8 Tryz.underlying63 hi hz0 hz1 hz2 rfl _ _ _ rfl HOW.out _ _ _ rfl HSL.out (by simp only [maxLen]; omega) (fitsM (by omega) (by decide)) hws ?_; intro v3 w3 o3 g3 a3; obtain ⟨av, cv, rfl, d3, d4, d5, W4, hW4, hK4, hR4⟩ := HAPP.out _ _ o3 g3 a3; have HW4 := hid hW4; have HK4 := hid hK4; have HR4 := hid hR4; clear o3 g3 a3 hW4 hK4 hR4)
       go_meet
       rw [← HW4.out]
       exact ⟨L2, _, _, HK4.out, .inr ⟨hno, HAB.out, rfl⟩, HR4.out, HC8.out⟩
     case rest =>
      obtain ⟨L2, vv2, A2, hK2, h2, hb2, c2, hc2, hg2⟩ := hcut
      have hkk := HST.out L2 A2 h2
      rw [hkk] at HFT
      have CRE := hid (HREC.out L1 A1 j k HF.out hlen HKJ.out HK0.out _ L2 _ A2 c2 hK2 hb2 hc2 (h2.imp (fun h => ⟨h.2.1, h.2.2⟩) (fun h => ⟨h.2.1, h.2.2⟩)))
      rw [hg2] at CRE
      have HB2 := hid hb2
      have b1 : wc.cell? ⟨cb, 0, none⟩ = some (fvB cf ca cb) := hK2.kb.cell 0
      have b2 := hK2.kb.lt
      rw [fvB] at b1
      clear hkk hK2 h2 hb2 HST HX HAP HB7 hc2 hg2
      go_wp2_with fail
      refine CRE.out.mono ?_
      rintro e' w9 ⟨rfl, L9, v9, hK9, ha9, hb9⟩
      rw [← HFT.out] at hK9 ha9
      have HK9 := hid hK9
      have HA9 := hid ha9
      have HB9 := hid (HB2.out.trans hb9)
      clear hK9 ha9 hb9 CRE HB2 b1 b2
      go_wp2
      go_roundw
      case rel => exact ⟨j + 1, by go_num, by omega, L9, v9, HK9.out, HA9.out, HB9.out⟩
      case measure => simp [numOf]; omega
   ·have e1 : decide ((j : Int) < N) = false := decide_eq_false (by omega)
    obtain rfl : j = N := by omega
    rw [List.take_of_length_le (by rw [HLN.out]; exact Nat.le_refl _), ← HFIN.out] at hK1 ha1
    have HX : Hid (KbR base B p m cf ca cb u L vl (kds (n + 1) (pab L) x A) (.returned undef) wr) := ⟨rfl, L1, vv, hK1, ha1, hb1⟩
    clear hK1 ha1 hb1 hF
    go_wp2
    go_end0
    exact HX.out
end
section
theorem kds_acc : ∀ (n : Nat) (F : Fo) (x : Int) (l a : List Int), kds n F x (l ++ a) = ((kds n F x a).1, l ++ (kds n F x a).2)
 | 0, F, x, l, a => rfl
 | n + 1, F, x, l, a => by
  rw [kds_succ, kds_succ]
  split
  ·rfl
  ·rename_i s _
   have hst : ∀ (r : Fo × List Int) (k : Int), kst n (r.1, l ++ r.2) k = ((kst n r k).1, l ++ (kst n r k).2) := fun r k => by
    unfold kst
    dsimp only
    split
    ·rfl
    ·split
     ·rfl
     ·split
      ·exact kds_acc n _ _ _ _
      ·rw [List.append_assoc]
       exact kds_acc n _ _ _ _
   have hf : ∀ (L : List Int) (r : Fo × List Int), L.foldl (kst n) (r.1, l ++ r.2) = ((L.foldl (kst n) r).1, l ++ (L.foldl (kst n) r).2) := fun L => by
    induction L with
    | nil => exact fun r => rfl
    | cons k L ih =>
     intro r
     rw [List.foldl_cons, List.foldl_cons, hst]
     exact ih _
   exact hf _ (F, a)
variable {base B : Nat} {w u w' : World} {p m : Nat} {L L' : Po} {F : Fo} {id : Int} {es : List Addr} {e : Ps}
theorem fapplybelow_any {mm : Nat} (hm : mm ≤ 900) (hE : Fe w es) (hB : 16 ≤ base) (h : Pf base w p m L) (hF : Fok mm (pab L)) (he : gt L id = some e) :
  Calls Tryz.prog 64 #[.pointer (some ⟨p, 0, none⟩), .pointer (some ⟨e.g, 0, none⟩)] w fun e' w' => ∃ L' vl, e' = .returned vl ∧ w'.ownsRow w.heap.size 3 1 vl (kds 41 (pab L) id []).2.length (ic (kds 41 (pab L) id []).2) ∧ PfR base w p m L (kds 41 (pab L) id []).1 w' L' := by
 have hlo : base ≤ w.heap.size := by
  have := h.lt.1
  have := h.lop
  omega
 have HW : Hid (∀ u : World, Below w.heap.size w u → Bk u w.heap.size 26 #[.pointer (some ⟨p, 0, none⟩)] → Bk u (w.heap.size + 1) 63 #[.slice none 0 0] → Bk u (w.heap.size + 1 + 1) 148 #[.func (.func 109) #[] #[.pointer (some ⟨w.heap.size, 0, none⟩), .pointer (some ⟨w.heap.size + 1, 0, none⟩), .pointer (some ⟨w.heap.size + 1 + 1, 0, none⟩)]] →
   Calls Tryz.prog 109 (#[.pointer (some ⟨e.g, 0, none⟩)] ++ #[.pointer (some ⟨w.heap.size, 0, none⟩), .pointer (some ⟨w.heap.size + 1, 0, none⟩), .pointer (some ⟨w.heap.size + 1 + 1, 0, none⟩)]) u fun e' w' => e' = .returned undef ∧ ∃ L' vl, w'.cell? ⟨w.heap.size + 1, 0, none⟩ = some vl ∧ w.heap.size + 1 < w'.heap.size ∧ w'.ownsRow w.heap.size 3 1 vl (kds 41 (pab L) id []).2.length (ic (kds 41 (pab L) id []).2) ∧ PfR base w p m L (kds 41 (pab L) id []).1 w' L') := fun u hb k1 k2 k3 => by
  have hK : Kab base w.heap.size u p m L w.heap.size (w.heap.size + 1) (w.heap.size + 1 + 1) (.slice none 0 0) [] := ka_new h hlo hb k1 k2 k3
  refine (fwaits_any hm hB 40 id u L (.slice none 0 0) [] e hK (hE.on hb) hF.inv hF.nof hF.szf hF.nok he (by omega) (by omega) (by simp)).mono ?_
  rintro e' w' ⟨h1, L', vl', hK', hab, hKr⟩
  exact ⟨h1, L', vl', hK'.ka.cell 0, hK'.ka.lt, hK'.row, Ka.out h hb hK hKr hK'.pf hab⟩
 have eg := enters_of Tryz.func109 (by kernel_rfl) rfl
 obtain ⟨W3, hW3⟩ : ∃ W3, W3 = (((w.alloc (.cells #[.pointer (some ⟨p, 0, none⟩)] 26)).alloc (.cells #[.slice none 0 0] 63)).alloc (.cells #[.nilFunc] 148)) := ⟨_, rfl⟩
 have b1 := bel_new w (.cells #[.pointer (some ⟨p, 0, none⟩)] 26)
 have b2 := bel_new (w.alloc (.cells #[.pointer (some ⟨p, 0, none⟩)] 26)) (.cells #[.slice none 0 0] 63)
 have b3 := bel_new ((w.alloc (.cells #[.pointer (some ⟨p, 0, none⟩)] 26)).alloc (.cells #[.slice none 0 0] 63)) (.cells #[.nilFunc] 148)
 have k1 := ((bk_new w #[.pointer (some ⟨p, 0, none⟩)] 26).on b2).on b3
 have k2 := (bk_new (w.alloc (.cells #[.pointer (some ⟨p, 0, none⟩)] 26)) #[.slice none 0 0] 63).on b3
 have k3 := bk_new ((w.alloc (.cells #[.pointer (some ⟨p, 0, none⟩)] 26)).alloc (.cells #[.slice none 0 0] 63)) #[.nilFunc] 148
 have hb3 := Below.on (Below.on b1 b2) b3
 simp only [size_new] at k2 k3
 rw [← hW3] at k1 k2 k3 hb3
 have k4 := k3.set 0 (.func (.func 109) #[] #[.pointer (some ⟨w.heap.size, 0, none⟩), .pointer (some ⟨w.heap.size + 1, 0, none⟩), .pointer (some ⟨w.heap.size + 1 + 1, 0, none⟩)])
 have k5 := k1.other (show w.heap.size ≠ w.heap.size + 1 + 1 by omega) 0 (.func (.func 109) #[] #[.pointer (some ⟨w.heap.size, 0, none⟩), .pointer (some ⟨w.heap.size + 1, 0, none⟩), .pointer (some ⟨w.heap.size + 1 + 1, 0, none⟩)])
 have k6 := k2.other (show w.heap.size + 1 ≠ w.heap.size + 1 + 1 by omega) 0 (.func (.func 109) #[] #[.pointer (some ⟨w.heap.size, 0, none⟩), .pointer (some ⟨w.heap.size + 1, 0, none⟩), .pointer (some ⟨w.heap.size + 1 + 1, 0, none⟩)])
 have HX := hid (HW.out (W3.setCell ⟨w.heap.size + 1 + 1, 0, none⟩ (.func (.func 109) #[] #[.pointer (some ⟨w.heap.size, 0, none⟩), .pointer (some ⟨w.heap.size + 1, 0, none⟩), .pointer (some ⟨w.heap.size + 1 + 1, 0, none⟩)])) (hb3.setCell (p := ⟨w.heap.size + 1 + 1, 0, none⟩) (by show w.heap.size ≤ w.heap.size + 1 + 1; omega) _) k5 k6 k4)
 have d1 : W3.cell? ⟨w.heap.size + 1 + 1, 0, none⟩ = some .nilFunc := k3.cell 0
 have d2 := k3.fz
 have d3 := k3.lt
 have d4 : (W3.setCell ⟨w.heap.size + 1 + 1, 0, none⟩ (.func (.func 109) #[] #[.pointer (some ⟨w.heap.size, 0, none⟩), .pointer (some ⟨w.heap.size + 1, 0, none⟩), .pointer (some ⟨w.heap.size + 1 + 1, 0, none⟩)])).cell? ⟨w.heap.size + 1 + 1, 0, none⟩ = some (.func (.func 109) #[] #[.pointer (some ⟨w.heap.size, 0, none⟩), .pointer (some ⟨w.heap.size + 1, 0, none⟩), .pointer (some ⟨w.heap.size + 1 + 1, 0, none⟩)]) := k4.cell 0
 have HW3 := hid hW3
 clear hE h hF he hlo b1 b2 b3 k1 k2 k3 k4 k5 k6 hb3 hW3 HW
 go_enter Tryz.func64, Tryz.ntmps64
 go_upto_region 3 with fail
 rw [← HW3.out]
 go_wp2_with fail
 refine HX.out.mono ?_
 rintro e' w5 ⟨rfl, L5, vl, c5, l5, ho5, hR5⟩
 have HO := hid ho5
 have HR := hid hR5
 clear ho5 hR5 HX d1 d2 d3 d4
 go_wp2
 go_ret
 exact ⟨L5, vl, rfl, HO.out, HR.out⟩
end
end Go.Proofs.YtkjempffidndeaaGreatDoor
