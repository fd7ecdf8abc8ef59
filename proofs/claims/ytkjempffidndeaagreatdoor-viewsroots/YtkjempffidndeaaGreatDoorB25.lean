/- Lemmas that the proof leans on. -/
import Derived.Test.YtkjempffidndeaaGreatDoorB24
namespace Go.Proofs.YtkjempffidndeaaGreatDoor
open Go Go.RowKit
set_option maxRecDepth 100000
set_option maxHeartbeats 4000000
section
variable {base B : Nat} {w u w' : World} {p m : Nat} {L L' : Po} {F : Fo} {cf ca cb : Nat} {vl : Value} {es : List Addr}
def fvW (cf ca cb : Nat) : Value := .func (.func 111) #[] #[.pointer (some ⟨cf, 0, none⟩), .pointer (some ⟨ca, 0, none⟩), .pointer (some ⟨cb, 0, none⟩)]
abbrev Kaw (base B : Nat) (w : World) (p m : Nat) (L : Po) (cf ca cb : Nat) (vl : Value) (S : List (List Int)) : Prop := Ka base B w p m L cf ca cb 150 (fvW cf ca cb) 23 46 3 vl S.length (mcs S)
def KwR (base B : Nat) (p m : Nat) (cf ca cb : Nat) (u : World) (L : Po) (vl : Value) (S : List (List Int)) (e' : Ending) (w' : World) : Prop := e' = .returned undef ∧ ∃ vl', Kaw base B w' p m L cf ca cb vl' S ∧ Kr m ca u L vl w' L vl' ∧ RowKit.Below B u w'
theorem fwalk1_any {mm : Nat} (hB : 16 ≤ base) (hI : Inv (pab L)) (hN : Nof (pab L)) (hZ : Szf mm (pab L)) (hNk : Nok L) : ∀ (n : Nat) (id x y : Int) (u : World) (vl : Value) (S : List (List Int)), Kaw base B u p m L cf ca cb vl S → Fe u es → Bt id → 40 ≤ n + dpt (pab L) id → n ≤ 41 → S.length + 100 * n ≤ 100000 → -1099511627776 * (42 - n : Int) ≤ x → x ≤ 1099511627776 * (42 - n : Int) → -1099511627776 * (42 - n : Int) ≤ y → y ≤ 1099511627776 * (42 - n : Int) →
  Calls Tryz.prog 111 (#[.int .i64 id, .int .i64 x, .int .i64 y] ++ #[.pointer (some ⟨cf, 0, none⟩), .pointer (some ⟨ca, 0, none⟩), .pointer (some ⟨cb, 0, none⟩)]) u (KwR base B p m cf ca cb u L vl (S ++ wlk (pab L) (n + 1) id x y)) := by
 intro n
 induction n using Nat.strongRecOn with
 | ind n ih =>
  intro id x y u vl S hK hE hbt hd hn hacc hx1 hx2 hy1 hy2
  have eg := enters_of Tryz.func111 (by kernel_rfl) rfl
  obtain ⟨i0, hi, hn0, hn1, hn2⟩ := infoMP infoM3
  have CF := hid (ffind_any hE hK.pf id hbt)
  have f1 : u.cell? ⟨cf, 0, none⟩ = some (.pointer (some ⟨p, 0, none⟩)) := hK.kf.cell 0
  have f2 := hK.kf.lt
  cases hs : gt L id with
  | none =>
   have HS : Hid (pto L id = none ∧ hasE (pab L) id = 5) := ⟨by rw [pto, hs]; rfl, by rw [hasE, gt_pab, hs]; rfl⟩
   have HX : Hid (∀ q, KwR base B p m cf ca cb u L vl (S ++ wlk (pab L) (n + 1) id x y) (.returned undef) (u.drewN q)) := fun q => by
    rw [wlk_none (by rw [gt_pab, hs]; rfl), List.append_nil]
    exact ⟨rfl, vl, hK.on (below_drewN (Below.refl _ _) q), Kr.refl (below_drewN (Below.refl _ _) q), below_drewN (Below.refl _ _) q⟩
   rw [HS.out.1, HS.out.2] at CF
   clear hs hK ih hd hn HS hI hN hZ hNk hE
   go_enter Tryz.func111, Tryz.ntmps111
   go_wp2_with fail
   refine CF.out.mono ?_
   rintro e' w1 ⟨rfl, q1, rfl⟩
   have HY := hid (HX.out q1)
   rw [ptv_none, erv_succ]
   go_wp2
   refine bodyPost_ret (results_none rfl _ _ _) rfl ?_
   exact HY.out
  | some e =>
   have hsa : gt (pab L) id = some e.s.f := by rw [gt_pab, hs]; rfl
   have HS : Hid (pto L id = some e.g ∧ hasE (pab L) id = 0) := ⟨by rw [pto, hs]; rfl, by rw [hasE, hsa]⟩
   rw [HS.out.1, HS.out.2] at CF
   have b21 : u.cell? ⟨e.g, 21, none⟩ = some (.int .i64 e.s.no.buf) := hK.pf.cell hs
   have hlt := (hK.pf.wlt hs (mem_wb.2 (.inl rfl))).2
   by_cases hb0 : e.s.no.buf = 0
   ·have HX : Hid (∀ q, KwR base B p m cf ca cb u L vl (S ++ wlk (pab L) (n + 1) id x y) (.returned undef) (u.drewN q)) := fun q => by
     rw [wlk_zero hsa hb0, List.append_nil]
     exact ⟨rfl, vl, hK.on (below_drewN (Below.refl _ _) q), Kr.refl (below_drewN (Below.refl _ _) q), below_drewN (Below.refl _ _) q⟩
    rw [hb0] at b21
    clear hs hK ih hd hn HS hI hN hZ hNk hE hsa
    go_enter Tryz.func111, Tryz.ntmps111
    go_wp2_with fail
    refine CF.out.mono ?_
    rintro e' w1 ⟨rfl, q1, rfl⟩
    have HY := hid (HX.out q1)
    rw [ptv_some, erv0]
    go_wp2
    refine bodyPost_ret (results_none rfl _ _ _) rfl ?_
    exact HY.out
   ·have e0 : (e.s.no.buf == 0) = false := beq_false_of_ne hb0
    obtain ⟨od, hod⟩ : ∃ od, od = un1 e.s.no.od.l := ⟨_, rfl⟩
    obtain ⟨N, hNN⟩ : ∃ N, N = e.s.no.od.n := ⟨_, rfl⟩
    obtain ⟨oa, hoa⟩ : ∃ oa, oa = e.s.no.od.a := ⟨_, rfl⟩
    obtain ⟨oc, hoc⟩ : ∃ oc, oc = e.s.no.od.c := ⟨_, rfl⟩
    have hw : wlk (pab L) (n + 1) id x y = od.flatMap (wk1 (pab L) n id x y e.s.no.pl.l) := by rw [wlk_some hsa hb0, hod]; rfl
    have hwl : (od.flatMap (wk1 (pab L) n id x y e.s.no.pl.l)).length ≤ 40 := by
     rw [← hw]
     exact Nat.le_trans (wlk_length hI hN _ _ _ _) (Nat.le_trans (dsc_le _ _) hI.len)
    have HRZ : Hid (∀ u1 vl1, Kr m ca u L vl u1 L vl1 → Rz u1 oa N oc od) := fun u1 vl1 hk => by
     rw [hod, hNN, hoa, hoc]
     exact rz_of_rdm (hk.rd hK hs (by simp [ros]) (hK.pf.rows id e hs).ok.no.od)
    have hN63 := (HRZ.out _ _ (Kr.refl (Below.refl _ _))).small.1
    have HLN := hid (HRZ.out _ _ (Kr.refl (Below.refl _ _))).len
    have hed := (hZ id e.s.f hsa).ed.2.2
    have HBT : Hid (∀ j k, od[j]? = some k → Bt k) := fun j k hj => by
     by_cases hk0 : k = 0
     ·rw [hk0]
      exact bt0
     ·obtain ⟨c0, hc0, _⟩ := hI.kid id e.s.f hsa k (.inr (.inr (by show k ∈ un1 e.s.no.od.l; rw [← hod]; exact List.mem_of_getElem? hj))) hk0
      rw [gt_pab] at hc0
      obtain ⟨e0, he0, _⟩ := Option.map_eq_some_iff.1 hc0
      exact (hNk.key k e0 he0).1
    have HREC : Hid (∀ (k : Int) (j : Nat), od[j]? = some k → k ≠ 0 → ∀ (u' : World) (vl' : Value) (S' : List (List Int)) (z1 z2 : Int), Kaw base B u' p m L cf ca cb vl' S' → Kr m ca u L vl u' L vl' → S'.length ≤ S.length + 40 → plx k e.s.no.pl.l = (z1, z2) → Calls Tryz.prog 111 (#[.int .i64 k, .int .i64 (x + z1), .int .i64 (y + z2)] ++ #[.pointer (some ⟨cf, 0, none⟩), .pointer (some ⟨ca, 0, none⟩), .pointer (some ⟨cb, 0, none⟩)]) u' (KwR base B p m cf ca cb u' L vl' (S' ++ wk1 (pab L) n id x y e.s.no.pl.l k))) := fun k j hj hk0 u' vl' S' z1 z2 hK' hKr hl' hp => by
     obtain ⟨c, hc, hpar⟩ := hI.kid id e.s.f hsa k (.inr (.inr (by show k ∈ un1 e.s.no.od.l; rw [← hod]; exact List.mem_of_getElem? hj))) hk0
     have hdk := dpt_lt hI.acy hc
     rw [hpar] at hdk
     have hdl := dpt_le (pab L) k
     have hFl := hI.len
     obtain ⟨n', rfl⟩ : ∃ n', n = n' + 1 := ⟨n - 1, by omega⟩
     have hE' := plx_edge (k := k) hed
     rw [show e.s.f.no.pl = e.s.no.pl.l from rfl, hp] at hE'
     have := ih n' (by omega) k (x + z1) (y + z2) u' vl' S' hK' (hE.kb (hKr.bel hK) hB) (HBT.out j k hj) (by omega) (by omega) (by omega) (by omega) (by omega) (by omega) (by omega)
     rw [wk1, if_neg hk0, hp]
     exact this
    have HNX : Hid (∀ (k : Int), -1125899906842624 ≤ x + (plx k e.s.no.pl.l).1 ∧ x + (plx k e.s.no.pl.l).1 ≤ 1125899906842624 ∧ -1125899906842624 ≤ y + (plx k e.s.no.pl.l).2 ∧ y + (plx k e.s.no.pl.l).2 ≤ 1125899906842624) := fun k => by
     have hE' := plx_edge (k := k) hed
     rw [show e.s.f.no.pl = e.s.no.pl.l from rfl] at hE'
     omega
    obtain ⟨G, hG⟩ : ∃ G, G = wk1 (pab L) n id x y e.s.no.pl.l := ⟨_, rfl⟩
    have HG0 : Hid (G 0 = [[id, x, y]]) := by rw [hG]; exact if_pos rfl
    rw [← hG] at hw hwl HREC
    have HW := hid hw
    have HWL := hid hwl
    have HSZ : Hid (∀ l : List Int, ∀ y' ∈ l.flatMap G, y'.length = 3) := fun l y' hy' => by
     rw [hG] at hy'
     obtain ⟨k, _, hk⟩ := List.mem_flatMap.1 hy'
     exact wk1_size hk
    have HCEL : Hid (∀ u1 vl1, Kr m ca u L vl u1 L vl1 → Pf base u1 p m L → u1.cell? ⟨e.g, 29, none⟩ = some (.slice e.s.no.pl.a e.s.no.pl.n e.s.no.pl.c) ∧ e.g < u1.heap.size ∧ RdM 3 u1 e.s.no.pl.a e.s.no.pl.n e.s.no.pl.c e.s.no.pl.l) := fun u1 vl1 hk hP => ⟨hP.cell hs, (hP.wlt hs (mem_wb.2 (.inl rfl))).2, (hP.rows id e hs).ok.no.pl⟩
    have HK := hid hK
    have c28 : u.cell? ⟨e.g, 28, none⟩ = some (.slice oa N oc) := by rw [hNN, hoa, hoc]; exact hK.pf.cell hs
    clear hK hE hI hN hZ hNk hs hsa hod hNN hoa hoc ih hd hn hb0 hed hw hwl hG HS hbt
    go_enter Tryz.func111, Tryz.ntmps111
    go_wp2_with fail
    refine CF.out.mono ?_
    rintro e' w1 ⟨rfl, q1, hw1⟩
    have hb1 : Below u.heap.size u w1 := by rw [hw1]; exact below_drewN (Below.refl _ _) q1
    have d21 : w1.cell? ⟨e.g, 21, none⟩ = some (.int .i64 e.s.no.buf) := by rw [hw1]; exact b21
    have d28 : w1.cell? ⟨e.g, 28, none⟩ = some (.slice oa N oc) := by rw [hw1]; exact c28
    have dlt : e.g < w1.heap.size := Nat.lt_of_lt_of_le hlt hb1.size
    have HKR1 : Hid (Kr m ca u L vl w1 L vl ∧ RowKit.Below B u w1) := ⟨Kr.refl hb1, by rw [hw1]; exact below_drewN (Below.refl _ _) q1⟩
    have HK1 := hid (HK.out.on hb1)
    clear hw1 hb1 CF b21 c28 f1 f2 HK hlt
    rw [ptv_some, erv0]
    go_wp2
    go_loopw [37] (fun i wr => ∃ j : Nat, i = .int .i64 j ∧ j ≤ N ∧ ∃ vv, Kaw base B wr p m L cf ca cb vv (S ++ (od.take j).flatMap G) ∧ Kr m ca u L vl wr L vv ∧ RowKit.Below B u wr) (fun i _ => N - (numOf i).toNat)
    case atStart => exact ⟨0, rfl, by omega, vl, by simpa using HK1.out, HKR1.out⟩
    case round =>
     obtain ⟨j, rfl, hj, vv, hK2, hR2, hBl2⟩ := hrel
     have HBL := hid hBl2
     clear hBl2
     have hll : (S ++ (od.take j).flatMap G).length ≤ S.length + 40 := by
      rw [List.length_append]
      have := flat_take_le od j G
      have := HWL.out
      omega
     clear d21 d28 dlt HKR1 HK1
     by_cases hgo : j < N
     ·have e1 : decide ((j : Int) < N) = true := decide_eq_true (by omega)
      have e2 : (j : Int) < N := by omega
      obtain ⟨bl, off, k, ha, _, hk, ck⟩ := (HRZ.out _ _ hR2).at_ (j := j) hgo
      have HFT := hid (flat_take hk G)
      have HKJ := hid hk
      subst ha
      have HK2 := hid hK2
      have HR2 := hid hR2
      clear hk
      by_cases hk0 : k = 0
      ·subst hk0
       rw [HG0.out] at HFT
       have h9 := bel_new wr (.cells #[.int .i64 id, .int .i64 x, .int .i64 y] 46)
       have hK9 := hK2.on h9
       have HKR := hid (hR2.trans (Kr.refl (m := m) (ca := ca) (L := L) (vl := vv) h9))
       have HB9 : Hid (RowKit.Below B u (wr.alloc (.cells #[.int .i64 id, .int .i64 x, .int .i64 y] 46))) := HBL.out.trans ((h9.mono (by have h1 := (hK2.ext ca (by simp)).2.2.2.2; have h2 := hK2.ka.lt; omega)))
       have d1 : wr.cell? ⟨ca, 0, none⟩ = some vv := hK2.ka.cell 0
       have d2 := hK2.ka.lt
       obtain ⟨va, vc, hvv⟩ := own_val hK2.row
       have HOW := hid hK9.row
       have HSL := hid (src3 wr id x y)
       have hws : B ≤ (wr.alloc (.cells #[.int .i64 id, .int .i64 x, .int .i64 y] 46)).heap.size := by
        have h1 := (hK9.ext ca (by simp)).2.2.2.2
        have h2 := hK9.ka.lt
        omega
       have HAPP : Hid (∀ v3 w3, w3.ownsRow B 46 3 v3 ((S ++ (od.take j).flatMap G).length + 1) (mcs (S ++ (od.take j).flatMap G) ++ mcs [[id, x, y]]) → (wr.alloc (.cells #[.int .i64 id, .int .i64 x, .int .i64 y] 46)).grownBy w3 vv.ownBlock → (v3.ownBlock = vv.ownBlock ∨ v3.ownBlock = some (wr.alloc (.cells #[.int .i64 id, .int .i64 x, .int .i64 y] 46)).heap.size) → ∃ a c, v3 = .slice a ((S ++ (od.take j).flatMap G).length + 1) c ∧ w3.cell? ⟨ca, 0, none⟩ = some vv ∧ (∀ j, w3.frozen? ⟨ca, j, none⟩ = false) ∧ ca < w3.heap.size ∧ ∃ W4, W4 = w3.setCell ⟨ca, 0, none⟩ (.slice a ((S ++ (od.take j).flatMap G).length + 1) c) ∧ Kaw base B W4 p m L cf ca cb v3 (S ++ (od.take (j + 1)).flatMap G) ∧ Kr m ca u L vl W4 L v3 ∧ RowKit.Below B u W4) := fun v3 w3 o3 g3 a3 => by
        obtain ⟨a, c, hv3⟩ := own_val o3
        obtain ⟨k1, k2, k3, k4, k5, k6⟩ := hK9.app o3 g3 a3
        refine ⟨a, c, hv3, k1, k2, k3, _, rfl, ?_, ?_, ?_⟩
        ·rw [← hv3, HFT.out, ← List.append_assoc]
         show Ka _ _ _ _ _ _ _ _ _ _ _ _ _ _ _ (_ ++ [[id, x, y]]).length (mcs (_ ++ [[id, x, y]]))
         rw [mcs_append, List.length_append (bs := [[id, x, y]])]
         exact k4
        ·rw [← hv3]
         exact HKR.out.trans k5
        ·rw [← hv3]
         exact HB9.out.trans k6
       subst hvv
       clear hK9 h9 hK2 hR2 HK2 HR2 HFT
       generalize (S ++ (od.take j).flatMap G).length = m9 at *
       go_wp2_with (at_builtin; refine wpList_append_own_at _ rfl (.tmp 43) (.tmp 48) 23 23 rfl B 46 i0 (.agg #[.int .i64 0, .int .i64 0, .int .i64 0]) 3 24 Tryz.underlying23 hi hn0 hn1 hn2 rfl _ _ _ rfl HOW.out _ _ _ rfl HSL.out (by simp only [maxLen]; omega) (fitsM (by omega) (by decide)) hws ?_; intro v3 w3 o3 g3 a3; obtain ⟨av, cv, rfl, d3, d4, d5, W4, hW4, hK4, hR4⟩ := HAPP.out _ _ o3 g3 a3; have HW4 := hid hW4; have HK4 := hid hK4; have HR4 := hid hR4; clear o3 g3 a3 hW4 hK4 hR4)
       rw [← HW4.out]
       go_roundw
       case rel => exact ⟨j + 1, by go_num, by omega, _, HK4.out, HR4.out⟩
       case measure => simp [numOf]; omega
      ·have e3 : (k == 0) = false := beq_false_of_ne hk0
       obtain ⟨c29, l29, rpl⟩ := HCEL.out _ _ hR2 hK2.pf
       have CFD := hid (find_any _ _ _ _ k wr rpl)
       have hnx := HNX.out k
       have HRC := hid (HREC.out k j HKJ.out hk0)
       clear hk0 rpl hK2 hR2
       go_wp2_with fail
       refine CFD.out.mono ?_
       rintro e' w5 ⟨z0, z1, z2, b, rfl, hf, hb5⟩
       have hp := fndV_plx hf
       rw [hp] at hnx
       dsimp only at hnx
       have h9 := bel_new w5 (.cells #[.int .i64 z0, .int .i64 z1, .int .i64 z2] 46)
       have hb9 := Below.on hb5 h9
       have HRC2 := hid (HRC.out _ _ _ z1 z2 (HK2.out.on hb9) (HR2.out.trans (Kr.refl hb9)) hll hp)
       have HKR9 := hid (HR2.out.trans (Kr.refl (m := m) (ca := ca) (L := L) (vl := vv) hb9))
       have HBL9 : Hid (RowKit.Below B u (w5.alloc (.cells #[.int .i64 z0, .int .i64 z1, .int .i64 z2] 46))) := HBL.out.trans (hb9.mono (by have h1 := (HK2.out.ext ca (by simp)).2.2.2.2; have h2 := HK2.out.ka.lt; omega))
       have b1 : (w5.alloc (.cells #[.int .i64 z0, .int .i64 z1, .int .i64 z2] 46)).cell? ⟨cb, 0, none⟩ = some (fvW cf ca cb) := (HK2.out.on hb9).kb.cell 0
       have b2 := (HK2.out.on hb9).kb.lt
       rw [fvW] at b1
       have b3 : w5.cell? ⟨cb, 0, none⟩ = some (.func (.func 111) #[] #[.pointer (some ⟨cf, 0, none⟩), .pointer (some ⟨ca, 0, none⟩), .pointer (some ⟨cb, 0, none⟩)]) := (HK2.out.on hb5).kb.cell 0
       have b4 := (HK2.out.on hb5).kb.lt
       have HFT2 : Hid (S ++ (od.take (j + 1)).flatMap G = (S ++ (od.take j).flatMap G) ++ G k) := by rw [Hid, HFT.out, List.append_assoc]
       clear hf hb5 hp h9 hb9 CFD HRC HFT HK2 HR2 c29 l29
       go_wp2_with fail
       refine HRC2.out.mono ?_
       rintro e' w6 ⟨rfl, v6, hK6, hR6, hBl6⟩
       rw [← HFT2.out] at hK6
       have HK6 := hid hK6
       have HR6 := hid (And.intro (HKR9.out.trans hR6) (HBL9.out.trans hBl6))
       clear hK6 hR6 hBl6 HBL9 HRC2 HKR9 b1 b2 b3 b4
       go_wp2
       go_roundw
       case rel => exact ⟨j + 1, by go_num, by omega, _, HK6.out, HR6.out⟩
       case measure => simp [numOf]; omega
     ·have e1 : decide ((j : Int) < N) = false := decide_eq_false (by omega)
      obtain rfl : j = N := by omega
      rw [List.take_of_length_le (by rw [HLN.out]; exact Nat.le_refl _), ← HW.out] at hK2
      have HX : Hid (KwR base B p m cf ca cb u L vl (S ++ wlk (pab L) (n + 1) id x y) (.returned undef) wr) := ⟨rfl, vv, hK2, hR2, HBL.out⟩
      clear hK2 hR2
      go_wp2
      go_end0
      exact HX.out
end
section
variable {base B : Nat} {w u w' : World} {p m : Nat} {L L' : Po} {F : Fo} {id : Int} {es : List Addr} {e : Ps}
theorem fwalk_any {mm : Nat} (hE : Fe w es) (hB : 16 ≤ base) (h : Pf base w p m L) (hF : Fok mm (pab L)) (id : Int) (hi : Bt id) :
  Calls Tryz.prog 67 #[.pointer (some ⟨p, 0, none⟩), .int .i64 id] w fun e' w' => ∃ v, e' = .returned v ∧ w'.ownsRow w.heap.size 46 3 v (wlk (pab L) 41 id 0 0).length (mcs (wlk (pab L) 41 id 0 0)) ∧ RowKit.Below w.heap.size w w' := by
 have hlo : base ≤ w.heap.size := by
  have := h.lt.1
  have := h.lop
  omega
 have HW : Hid (∀ u : World, Below w.heap.size w u → Bk u w.heap.size 26 #[.pointer (some ⟨p, 0, none⟩)] → Bk u (w.heap.size + 1) 23 #[.slice none 0 0] → Bk u (w.heap.size + 1 + 1) 150 #[.func (.func 111) #[] #[.pointer (some ⟨w.heap.size, 0, none⟩), .pointer (some ⟨w.heap.size + 1, 0, none⟩), .pointer (some ⟨w.heap.size + 1 + 1, 0, none⟩)]] →
   Calls Tryz.prog 111 (#[.int .i64 id, .int .i64 0, .int .i64 0] ++ #[.pointer (some ⟨w.heap.size, 0, none⟩), .pointer (some ⟨w.heap.size + 1, 0, none⟩), .pointer (some ⟨w.heap.size + 1 + 1, 0, none⟩)]) u fun e' w' => e' = .returned undef ∧ ∃ vl, w'.cell? ⟨w.heap.size + 1, 0, none⟩ = some vl ∧ w.heap.size + 1 < w'.heap.size ∧ w'.ownsRow w.heap.size 46 3 vl (wlk (pab L) 41 id 0 0).length (mcs (wlk (pab L) 41 id 0 0)) ∧ RowKit.Below w.heap.size w w') := fun u hb k1 k2 k3 => by
  have hK : Kaw base w.heap.size u p m L w.heap.size (w.heap.size + 1) (w.heap.size + 1 + 1) (.slice none 0 0) [] := ka_new h hlo hb k1 k2 k3
  refine (fwalk1_any hB hF.inv hF.nof hF.szf hF.nok 40 id 0 0 u (.slice none 0 0) [] hK (hE.on hb) hi (by omega) (by omega) (by simp) (by omega) (by omega) (by omega) (by omega)).mono ?_
  rintro e' w' ⟨h1, vl', hK', -, hBl⟩
  rw [List.nil_append] at hK'
  exact ⟨h1, vl', hK'.ka.cell 0, hK'.ka.lt, hK'.row, hb.trans hBl⟩
 have eg := enters_of Tryz.func111 (by kernel_rfl) rfl
 obtain ⟨W3, hW3⟩ : ∃ W3, W3 = (((w.alloc (.cells #[.pointer (some ⟨p, 0, none⟩)] 26)).alloc (.cells #[.slice none 0 0] 23)).alloc (.cells #[.nilFunc] 150)) := ⟨_, rfl⟩
 have b1 := bel_new w (.cells #[.pointer (some ⟨p, 0, none⟩)] 26)
 have b2 := bel_new (w.alloc (.cells #[.pointer (some ⟨p, 0, none⟩)] 26)) (.cells #[.slice none 0 0] 23)
 have b3 := bel_new ((w.alloc (.cells #[.pointer (some ⟨p, 0, none⟩)] 26)).alloc (.cells #[.slice none 0 0] 23)) (.cells #[.nilFunc] 150)
 have k1 := ((bk_new w #[.pointer (some ⟨p, 0, none⟩)] 26).on b2).on b3
 have k2 := (bk_new (w.alloc (.cells #[.pointer (some ⟨p, 0, none⟩)] 26)) #[.slice none 0 0] 23).on b3
 have k3 := bk_new ((w.alloc (.cells #[.pointer (some ⟨p, 0, none⟩)] 26)).alloc (.cells #[.slice none 0 0] 23)) #[.nilFunc] 150
 have hb3 := Below.on (Below.on b1 b2) b3
 simp only [size_new] at k2 k3
 rw [← hW3] at k1 k2 k3 hb3
 have k4 := k3.set 0 (.func (.func 111) #[] #[.pointer (some ⟨w.heap.size, 0, none⟩), .pointer (some ⟨w.heap.size + 1, 0, none⟩), .pointer (some ⟨w.heap.size + 1 + 1, 0, none⟩)])
 have k5 := k1.other (show w.heap.size ≠ w.heap.size + 1 + 1 by omega) 0 (.func (.func 111) #[] #[.pointer (some ⟨w.heap.size, 0, none⟩), .pointer (some ⟨w.heap.size + 1, 0, none⟩), .pointer (some ⟨w.heap.size + 1 + 1, 0, none⟩)])
 have k6 := k2.other (show w.heap.size + 1 ≠ w.heap.size + 1 + 1 by omega) 0 (.func (.func 111) #[] #[.pointer (some ⟨w.heap.size, 0, none⟩), .pointer (some ⟨w.heap.size + 1, 0, none⟩), .pointer (some ⟨w.heap.size + 1 + 1, 0, none⟩)])
 have HX := hid (HW.out (W3.setCell ⟨w.heap.size + 1 + 1, 0, none⟩ (.func (.func 111) #[] #[.pointer (some ⟨w.heap.size, 0, none⟩), .pointer (some ⟨w.heap.size + 1, 0, none⟩), .pointer (some ⟨w.heap.size + 1 + 1, 0, none⟩)])) (hb3.setCell (p := ⟨w.heap.size + 1 + 1, 0, none⟩) (by show w.heap.size ≤ w.heap.size + 1 + 1; omega) _) k5 k6 k4)
 have d1 : W3.cell? ⟨w.heap.size + 1 + 1, 0, none⟩ = some .nilFunc := k3.cell 0
 have d2 := k3.fz
 have d3 := k3.lt
 have d4 : (W3.setCell ⟨w.heap.size + 1 + 1, 0, none⟩ (.func (.func 111) #[] #[.pointer (some ⟨w.heap.size, 0, none⟩), .pointer (some ⟨w.heap.size + 1, 0, none⟩), .pointer (some ⟨w.heap.size + 1 + 1, 0, none⟩)])).cell? ⟨w.heap.size + 1 + 1, 0, none⟩ = some (.func (.func 111) #[] #[.pointer (some ⟨w.heap.size, 0, none⟩), .pointer (some ⟨w.heap.size + 1, 0, none⟩), .pointer (some ⟨w.heap.size + 1 + 1, 0, none⟩)]) := k4.cell 0
 have HW3 := hid hW3
 clear hE h hF hlo b1 b2 b3 k1 k2 k3 k4 k5 k6 hb3 hW3 HW
 go_enter Tryz.func67, Tryz.ntmps67
 go_upto_region 3 with fail
 rw [← HW3.out]
 go_wp2_with fail
 refine HX.out.mono ?_
 rintro e' w5 ⟨rfl, vl, c5, l5, ho5, hR5⟩
 have HO := hid ho5
 have HR := hid hR5
 clear ho5 hR5 HX d1 d2 d3 d4
 go_wp2
 go_ret
 exact ⟨vl, rfl, HO.out, HR.out⟩
end
section
structure Pg (es : List Addr) (w0 w : World) (p : Nat) (mm : Nat) (F : Fo) : Prop where
 ex : ∃ m L, Pf w0.heap.size w p m L ∧ pab L = F
 ok : Fok mm F
 fe : Fe w es
 ng : 16 ≤ w0.heap.size
 bel : RowKit.Below w0.heap.size w0 w
variable {es : List Addr} {w0 w w' : World} {p mm : Nat} {F : Fo}
theorem Pg.on (h : Pg es w0 w p mm F) (hb : Below w.heap.size w w') : Pg es w0 w' p mm F := by
 obtain ⟨m, L, h1, h2⟩ := h.ex
 exact ⟨⟨m, L, h1.on hb, h2⟩, h.ok, h.fe.on hb, h.ng, Below.on h.bel hb⟩
theorem own_rz0 {w : World} {B : Nat} {v : Value} {l : List Int} (h : w.ownsRow B 3 1 v l.length (ic l)) : ∃ a c, v = .slice a l.length c ∧ Rz w a l.length c l := by
 obtain ⟨s, h1, h2, h3, h4, _⟩ := own_sl (l := sg l) (by rw [ic_mcs]; exact h) (by rw [sg_length]) (sg_size l)
 refine ⟨s.a, s.c, by rw [h1, Sl.v, h2], ?_⟩
 have := rz_of_rdm h4
 rw [h2, h3, un1_sg] at this
 exact this
theorem Pg.pfr {m : Nat} {L L' : Po} {G : Fo} {n : Nat} (h : Pg es w0 w p mm F) (hP : Pf w0.heap.size w p m L) (hR : PfR w0.heap.size w p m L G w' L') (hok : Fok n G) : Pg es w0 w' p n G := by
 have hb := hR.bel hP
 exact ⟨⟨m, L', hR.pf, hR.ab⟩, hok, h.fe.kb hb h.ng, h.ng, h.bel.trans hb⟩
theorem pg_new (w0 w : World) (hb : Below w0.heap.size w0 w) (hE : Fe w es) (hn : 16 ≤ w0.heap.size) : Calls Tryz.prog 17 #[] w fun e w' => ∃ p, e = .returned (.pointer (some ⟨p, 0, none⟩)) ∧ Pg es w0 w' p 0 [] ∧ Below w.heap.size w w' :=
 (fnew_any w).mono fun _ _ ⟨h1, h2, h3⟩ => ⟨_, h1, ⟨⟨_, _, h3 _ hb.size, rfl⟩, fok_nil, hE.on h2, hn, Below.on hb h2⟩, h2⟩
theorem Pg.add (h : Pg es w0 w p mm F) (_hm : mm ≤ 900) (id : Int) (hi : Bt id) : Calls Tryz.prog 19 #[.pointer (some ⟨p, 0, none⟩), .int .i64 id] w fun e w' => e = .returned (erv es (addE F id)) ∧ Pg es w0 w' p (mm + 1) (addF F id) := by
 obtain ⟨m, L, hP, rfl⟩ := h.ex
 exact (fadd_any h.fe hP id hi (by rw [← pab_length L]; exact h.ok.inv.len)).mono fun _ _ ⟨h1, L', hR⟩ => ⟨h1, h.pfr hP hR (h.ok.add hi)⟩
theorem Pg.att (h : Pg es w0 w p mm F) (_hm : mm ≤ 900) (id b : Int) (hi : Bt id) (hb : Bt b) : Calls Tryz.prog 20 #[.pointer (some ⟨p, 0, none⟩), .int .i64 id, .int .i64 b] w fun e w' => e = .returned (erv es (hasE F id)) ∧ Pg es w0 w' p (mm + 1) (upd F id (attS b)) := by
 obtain ⟨m, L, hP, rfl⟩ := h.ex
 exact (fattach_any h.fe hP id hi b).mono fun _ _ ⟨h1, L', hR⟩ => ⟨h1, h.pfr hP hR (h.ok.att id hb)⟩
theorem Pg.com (h : Pg es w0 w p mm F) (hm : mm ≤ 900) (id : Int) (hi : Bt id) : Calls Tryz.prog 21 #[.pointer (some ⟨p, 0, none⟩), .int .i64 id] w fun e w' => ∃ a c, e = .returned (.tuple #[.slice a (comB F id).2.length c, erv es (hasE F id)]) ∧ Rz w' a (comB F id).2.length c (comB F id).2 ∧ Pg es w0 w' p (mm + 1) (comB F id).1 := by
 obtain ⟨m, L, hP, rfl⟩ := h.ex
 refine (fcommit_any hm h.fe h.ng hP h.ok id hi).mono fun e w' ⟨L', vl, h1, h2, hR⟩ => ?_
 rw [h.ok.inv.comF] at h2 hR
 obtain ⟨a, c, rfl, hr⟩ := own_rz0 h2
 exact ⟨a, c, h1, hr, h.pfr hP hR (by rw [← h.ok.inv.comF]; exact h.ok.com 41 id)⟩
theorem Pg.has (h : Pg es w0 w p mm F) (id : Int) (hi : Bt id) : Calls Tryz.prog 56 #[.pointer (some ⟨p, 0, none⟩), .int .i64 id] w fun e w' => e = .returned (.bool (gt F id).isSome) ∧ w' = w := by
 obtain ⟨m, L, hP, rfl⟩ := h.ex
 refine (fhas_any hP id hi).mono fun e w' ⟨h1, h2⟩ => ⟨?_, h2⟩
 rw [h1, gt_pab]
 cases gt L id <;> rfl
theorem Pg.par (h : Pg es w0 w p mm F) (id : Int) (hi : Bt id) : Calls Tryz.prog 74 #[.pointer (some ⟨p, 0, none⟩), .int .i64 id] w fun e w' => e = .returned (.int .i64 (parF F id)) ∧ Below w.heap.size w w' := by
 obtain ⟨m, L, hP, rfl⟩ := h.ex
 exact (fparent_any h.fe hP id hi).mono fun e w' ⟨h1, q, h2⟩ => ⟨h1, by rw [h2]; exact below_drewN (Below.refl _ _) q⟩
theorem Pg.sno (h : Pg es w0 w p mm F) (hm : mm ≤ 900) (id : Int) (hi : Bt id) : Calls Tryz.prog 23 #[.pointer (some ⟨p, 0, none⟩), .int .i64 id] w (Rst w (((gt F id).map Sf.no).getD sq0)) := by
 obtain ⟨m, L, hP, rfl⟩ := h.ex
 have := fcurrent_any hm h.fe hP h.ok id hi
 rw [show sho Sr.no L id = ((gt (pab L) id).map Sf.no).getD sq0 by rw [sho, gt_pab]; cases gt L id <;> rfl] at this
 exact this
end
section
abbrev Th := World → List Nat → Prop
structure Ft (B : Nat) (A : Th) : Prop where
 lt : ∀ {w : World} {X : List Nat}, A w X → ∀ b ∈ X, B ≤ b ∧ b < w.heap.size
 kept : ∀ {w w' : World} {X Y : List Nat}, A w X → Kp Y w w' → (∀ b ∈ Y, B ≤ b) → (∀ b ∈ X, b ∉ Y) → A w' X
def Nx (A : Th) (X : List Nat) (w w' : World) : Prop := ∃ X', A w' X' ∧ Kp X w w' ∧ ∀ b ∈ X', b ∈ X ∨ w.heap.size ≤ b
def sbs (A C : Th) : Th := fun w Z => ∃ X Y, A w X ∧ C w Y ∧ (∀ b ∈ X, b ∉ Y) ∧ Z = X ++ Y
variable {B : Nat} {A A' C C' : Th} {w w' w'' : World} {X Y Z : List Nat}
theorem Ft.on (hA : Ft B A) (h : A w X) (hb : Below w.heap.size w w') : A w' X := hA.kept h (kp_of_below hb []) (by simp) (by simp)
theorem sbs_ft (hA : Ft B A) (hC : Ft B C) : Ft B (sbs A C) := by
 refine ⟨fun {w X} h b hb => ?_, fun {w w' X Y} h hk hY hX => ?_⟩
 ·obtain ⟨X1, Y1, h1, h2, _, rfl⟩ := h
  rcases List.mem_append.1 hb with hb | hb
  ·exact hA.lt h1 b hb
  ·exact hC.lt h2 b hb
 ·obtain ⟨X1, Y1, h1, h2, h3, rfl⟩ := h
  exact ⟨X1, Y1, hA.kept h1 hk hY (fun b hb => hX b (List.mem_append_left _ hb)), hC.kept h2 hk hY (fun b hb => hX b (List.mem_append_right _ hb)), h3, rfl⟩
theorem Nx.left (hA : Ft B A) (hC : Ft B C) (h1 : A w X) (h2 : C w Y) (hd : ∀ b ∈ X, b ∉ Y) (h : Nx A' X w w') : Nx (sbs A' C) (X ++ Y) w w' := by
 obtain ⟨X', h3, h4, h5⟩ := h
 refine ⟨X' ++ Y, ⟨X', Y, h3, hC.kept h2 h4 (fun b hb => (hA.lt h1 b hb).1) (fun b hb hm => hd b hm hb), fun b hb hm => ?_, rfl⟩, h4.mono (fun b hb _ => List.mem_append_left _ hb), fun b hb => ?_⟩
 ·rcases h5 b hb with h | h
  ·exact hd b h hm
  ·have := (hC.lt h2 b hm).2
   omega
 ·rcases List.mem_append.1 hb with hb | hb
  ·exact (h5 b hb).imp (fun h => List.mem_append_left _ h) (fun h => h)
  ·exact .inl (List.mem_append_right _ hb)
theorem Nx.right (hA : Ft B A) (hC : Ft B C) (h1 : A w X) (h2 : C w Y) (hd : ∀ b ∈ X, b ∉ Y) (h : Nx C' Y w w') : Nx (sbs A C') (X ++ Y) w w' := by
 obtain ⟨Y', h3, h4, h5⟩ := h
 refine ⟨X ++ Y', ⟨X, Y', hA.kept h1 h4 (fun b hb => (hC.lt h2 b hb).1) hd, h3, fun b hb hm => ?_, rfl⟩, h4.mono (fun b hb _ => List.mem_append_right _ hb), fun b hb => ?_⟩
 ·rcases h5 b hm with h | h
  ·exact hd b hb h
  ·have := (hA.lt h1 b hb).2
   omega
 ·rcases List.mem_append.1 hb with hb | hb
  ·exact .inl (List.mem_append_left _ hb)
  ·exact (h5 b hb).imp (fun h => List.mem_append_right _ h) (fun h => h)
def Ct (P : Program) (f : Nat) (args : Array Value) (A A' : Th) (r : Value) : Prop := ∀ w X, A w X → Calls P f args w fun e w' => e = .returned r ∧ Nx A' X w w'
variable {P : Program} {f : Nat} {args : Array Value} {r : Value}
theorem Ct.left (h : Ct P f args A A' r) (hA : Ft B A) (hC : Ft B C) : Ct P f args (sbs A C) (sbs A' C) r := fun w Z hZ => by
 obtain ⟨X, Y, h1, h2, h3, rfl⟩ := hZ
 exact (h w X h1).mono fun _ _ ⟨h4, h5⟩ => ⟨h4, h5.left hA hC h1 h2 h3⟩
def Ex (A : Th) (w : World) : Prop := ∃ X, A w X
theorem Ex.on (hA : Ft B A) (h : Ex A w) (hb : Below w.heap.size w w') : Ex A w' := let ⟨X, h⟩ := h; ⟨X, hA.on h hb⟩
theorem sbs_new (hA : Ft B A) (h1 : A w X) (hb : Below w.heap.size w w') (h2 : C w' Y) (hY : ∀ b ∈ Y, w.heap.size ≤ b) : sbs A C w' (X ++ Y) :=
 ⟨X, Y, hA.on h1 hb, h2, fun b hb hm => by
  have := (hA.lt h1 b hb).2
  have := hY b hm
  omega, rfl⟩
def blk (g T : Nat) (cs : Array Value) : Th := fun w X => w.heap[g]? = some (.cells cs T (0, 0)) ∧ X = [g]
theorem blk_ft {g T : Nat} {cs : Array Value} (hg : B ≤ g) : Ft B (blk g T cs) := by
 refine ⟨fun {w X} h b hb => ?_, fun {w w' X Y} h hk _ hX => ?_⟩
 ·obtain ⟨h1, rfl⟩ := h
  obtain rfl := List.mem_singleton.1 hb
  exact ⟨hg, (Array.getElem?_eq_some_iff.1 h1).1⟩
 ·obtain ⟨h1, rfl⟩ := h
  exact ⟨hk.var h1 (hX g (by simp)), rfl⟩
end
section
variable {B : Nat} {A A' C C' : Th} {w w' w'' : World} {X Y Z : List Nat} {P : Program} {f : Nat} {args : Array Value} {Q : Ending → World → Prop}
def Cq (P : Program) (f : Nat) (args : Array Value) (A A' : Th) (Q : Ending → World → Prop) : Prop := ∀ w X, A w X → Calls P f args w fun e w' => Q e w' ∧ Nx A' X w w'
theorem Cq.left (h : Cq P f args A A' Q) (hA : Ft B A) (hC : Ft B C) : Cq P f args (sbs A C) (sbs A' C) Q := fun w Z hZ => by
 obtain ⟨X, Y, h1, h2, h3, rfl⟩ := hZ
 exact (h w X h1).mono fun _ _ ⟨h4, h5⟩ => ⟨h4, h5.left hA hC h1 h2 h3⟩
theorem Cq.right (h : Cq P f args C C' Q) (hA : Ft B A) (hC : Ft B C) : Cq P f args (sbs A C) (sbs A C') Q := fun w Z hZ => by
 obtain ⟨X, Y, h1, h2, h3, rfl⟩ := hZ
 exact (h w Y h2).mono fun _ _ ⟨h4, h5⟩ => ⟨h4, h5.right hA hC h1 h2 h3⟩
theorem Ct.cq {r : Value} (h : Ct P f args A A' r) : Cq P f args A A' fun e _ => e = .returned r := h
end
end Go.Proofs.YtkjempffidndeaaGreatDoor
