/- Repaint: the contract of the document's Changed. Laid by repaint/lay.sh. -/
import Derived.Test.YtlkodgmnhphfcaaBh
import Derived.Test.YtlkodgmnhphfcaaBa
import Derived.Test.YtlkodgmnhphfcaaBc
import Derived.Test.YtlkodgmnhphfcaaBg
import Derived.Deep.AppendSrc
import Derived.Test.YtlkodgmnhphfcaaBb
import Derived.Deep.RegionHeldLaw
import Derived.Test.YtlkodgmnhphfcaaBf
import Derived.Test.YtlkodgmnhphfcaaChecked
import Derived.Lib.SmallJoins
import Derived.ProofKit
import Derived.OpenShut
import Derived.ShutString
import Derived.ChangeOld
import Derived.SizedLaws
namespace Go.Proofs.Ytlkodgmnhphfcaa
open Go Go.RowKit

theorem chp_same (y : List Int) (D : List (Int × List Rc)) : chp (some y) (some y) D = qdm y D := by
  rw [chp, if_pos rfl]
  rfl
theorem chp_diff {o v : Option (List Int)} (h : o ≠ v) (D : List (Int × List Rc)) : chp o v D = (o.toList ++ v.toList).map vrc := by
  cases o with
  | none => cases v <;> rfl
  | some a =>
    cases v with
    | none => rfl
    | some b =>
      rw [chp, if_neg (fun e => h (by rw [e]))]
      rfl
theorem rlit (a : Option Addr) (n c : Nat) : (Value.slice a n c) = .slice a n c := rfl

set_option maxRecDepth 100000 in
set_option maxHeartbeats 8000000 in
theorem qrchanged_any (a : Option Addr) (n c : Nat) (o : List (List Int)) (a' : Option Addr) (n' c' : Nat) (v : List (List Int)) (a2 : Option Addr) (n2 c2 : Nat) (ds : List Dv) (w : World) (h : RdM 6 w a n c o) (h' : RdM 6 w a' n' c' v) (hd : RdD w a2 n2 c2 ds) (ho : ∀ y ∈ o, (vrc y).Ok) (hv : ∀ y ∈ v, (vrc y).Ok) :
    Calls Try.prog 10 #[.slice a n c, .slice a' n' c', .slice a2 n2 c2] w (Ret w (dfl (chl o v (ds.map ddl)))) := by
  obtain ⟨M, hM⟩ : ∃ M, max n n' = M := ⟨_, rfl⟩
  have hg := eqlM6_guard
  have hne := eqlM6
  have HM := hid hM
  have HR := hid h
  have HR' := hid h'
  have HD := hid hd
  have HL := hid h.len
  have HL' := hid h'.len
  have HLD := hid hd.len
  have hs := h.small
  have hs' := h'.small
  have hs2 := hd.small
  have HVO := hid ho
  have HVV := hid hv
  have HE : Hid (dfl (chN o v (ds.map ddl) M) = dfl (chl o v (ds.map ddl))) := by
    rw [Hid, chl, HL.out, HL'.out, HM.out]
  have CA : Hid (∀ (b : Option Addr) (d : Nat) (L : List Rc) (r : Rc) (u : World), r.Ok → RdC u b (dfl L).length d (dfl L) → Calls Try.prog 19 #[.slice b (dfl L).length d, .agg #[.int .i64 r.x, .int .i64 r.y, .int .i64 r.w, .int .i64 r.h]] u (Ret u (dfl (L ++ [r])))) := fun b d L r u ok hu => by
    have := raddr_any b _ d _ r ok u hu
    rwa [dput_dfl] at this
  generalize dfl (chl o v (ds.map ddl)) = R at HE ⊢
  obtain ⟨D, hDD⟩ : ∃ D, ds.map ddl = D := ⟨_, rfl⟩
  have HDM := hid hDD
  rw [hDD] at HE
  clear h h' hd ho hv hM hDD
  go_enter Try.func10, Try.ntmps10
  go_wp2
  go_loopw [7, 8] (fun s7 i wr => ∃ (j : Nat) (b : Option Addr) (d : Nat), i = .int .i64 j ∧ s7 = .slice b (dfl (chN o v D j)).length d ∧ j ≤ M ∧ RdC wr b (dfl (chN o v D j)).length d (dfl (chN o v D j)) ∧ Below w.heap.size w wr) (fun _ i _ => M - (numOf i).toNat)
  case atStart => exact ⟨0, none, 0, rfl, rfl, by omega, RdC.nil _, Below.refl _ _⟩
  case round =>
    obtain ⟨j, b, d, rfl, rfl, hj, h3, hb⟩ := hrel
    have H3 := hid h3
    have HB := hid hb
    clear h3 hb
    by_cases hgo : j < M
    · have HS := hid (chN_succ o v D j)
      obtain ⟨A0, hA0⟩ : ∃ A0, chN o v D j = A0 := ⟨_, rfl⟩
      rw [hA0] at HS H3 ⊢
      clear hA0
      by_cases hjn : j < n
      · have e1 : decide ((j : Int) < n) = true := decide_eq_true (by omega)
        have e2 : (j : Int) < n := by omega
        obtain ⟨bx, ox, x0, x1, x2, x3, x4, x5, rfl, hbx, hox, c0, c1, c2, c3, c4, c5⟩ := (HR.out.on HB.out).el6 hjn
        have okx := HVO.out _ (List.mem_of_getElem? hox)
        rw [hox] at HS
        have CX := hid (fun b d L u => CA.out b d L (vrc [x0, x1, x2, x3, x4, x5]) u okx)
        rw [show vrc [x0, x1, x2, x3, x4, x5] = ⟨x2, x3, x4, x5⟩ from rfl] at CX
        clear okx hox
        by_cases hjn' : j < n'
        · have e3 : decide ((j : Int) < n') = true := decide_eq_true (by omega)
          have e4 : (j : Int) < n' := by omega
          obtain ⟨by_, oy, y0, y1, y2, y3, y4, y5, rfl, hby, hoy, d0, d1, d2, d3, d4, d5⟩ := (HR'.out.on HB.out).el6 hjn'
          have oky := HVV.out _ (List.mem_of_getElem? hoy)
          have HOY := hid (List.mem_of_getElem? hoy)
          rw [hoy] at HS
          have CY := hid (fun b d L u => CA.out b d L (vrc [y0, y1, y2, y3, y4, y5]) u oky)
          rw [show vrc [y0, y1, y2, y3, y4, y5] = ⟨y2, y3, y4, y5⟩ from rfl] at CY
          clear oky hoy
          have hn0 := hne x0 x1 x2 x3 x4 x5 y0 y1 y2 y3 y4 y5
          clear hne
          by_cases hxy : [x0, x1, x2, x3, x4, x5] = [y0, y1, y2, y3, y4, y5]
          · rw [show leq [x0, x1, x2, x3, x4, x5] [y0, y1, y2, y3, y4, y5] = true from decide_eq_true hxy] at hn0
            rw [hxy, chp_same] at HS
            obtain ⟨y, hy⟩ : ∃ y, [y0, y1, y2, y3, y4, y5] = y := ⟨_, rfl⟩
            have ey : nm5 0 y = y0 := by rw [← hy]; rfl
            have CS : Hid (∀ (r : Rc) (u : World), r.Ok → Calls Try.prog 20 #[.agg #[.int .i64 y0, .int .i64 y1, .int .i64 y2, .int .i64 y3, .int .i64 y4, .int .i64 y5], .agg #[.int .i64 r.x, .int .i64 r.y, .int .i64 r.w, .int .i64 r.h]] u fun e w' => e = .returned (.agg #[.int .i64 (spt y r).x, .int .i64 (spt y r).y, .int .i64 (spt y r).w, .int .i64 (spt y r).h]) ∧ Below u.heap.size u w') := fun r u ok => by
              rw [← hy]
              exact qrspot_any y0 y1 y2 y3 y4 y5 r ok u
            rw [hy] at HS
            clear hxy hy CX CY
            go_wp2
            go_quiet (fail)
            have HB1 := hid (below_drewN HB.out nq)
            have hby1 : by_ < (wr.drewN nq).heap.size := by simpa using hby
            have H31 := hid (H3.out.drewN nq)
            have d0' : (wr.drewN nq).cell? ⟨by_, oy + j * 6, none⟩ = some (.int .i64 y0) := by simpa using d0
            have d1' : (wr.drewN nq).cell? ⟨by_, oy + j * 6 + 1, none⟩ = some (.int .i64 y1) := by simpa using d1
            have d2' : (wr.drewN nq).cell? ⟨by_, oy + j * 6 + 2, none⟩ = some (.int .i64 y2) := by simpa using d2
            have d3' : (wr.drewN nq).cell? ⟨by_, oy + j * 6 + 3, none⟩ = some (.int .i64 y3) := by simpa using d3
            have d4' : (wr.drewN nq).cell? ⟨by_, oy + j * 6 + 4, none⟩ = some (.int .i64 y4) := by simpa using d4
            have d5' : (wr.drewN nq).cell? ⟨by_, oy + j * 6 + 5, none⟩ = some (.int .i64 y5) := by simpa using d5
            generalize wr.drewN nq = W1 at HB1 hby1 H31 d0' d1' d2' d3' d4' d5' ⊢
            clear c0 c1 c2 c3 c4 c5 d0 d1 d2 d3 d4 d5 hby hbx HB H3 hn0
            go_wp2
            go_loopw [7, 9] (fun s7 i9 wk => ∃ (k : Nat) (b : Option Addr) (d : Nat), i9 = .int .i64 k ∧ s7 = .slice b (dfl (A0 ++ qdm y (D.take k))).length d ∧ k ≤ n2 ∧ RdC wk b (dfl (A0 ++ qdm y (D.take k))).length d (dfl (A0 ++ qdm y (D.take k))) ∧ Below W1.heap.size W1 wk) (fun _ i _ => n2 - (numOf i).toNat)
            case atStart => exact ⟨0, b, d, rfl, by simp [qdm], by omega, by simpa [qdm] using H31.out, Below.refl _ _⟩
            case round =>
              obtain ⟨k, b3, d3, rfl, rfl, hk, h3, hb⟩ := hrel
              obtain ⟨wk, rfl⟩ : ∃ W, W = wr := ⟨_, rfl⟩
              have H3 := hid h3
              have HB := hid hb
              clear h3 hb H31
              by_cases hgk : k < n2
              · have e5 : decide ((k : Int) < n2) = true := decide_eq_true (by omega)
                have e6 : (k : Int) < n2 := by omega
                obtain ⟨bd, od, dv, rfl, hbd, hdv, okd, f0, f1⟩ := ((HD.out.on HB1.out).on HB.out).el hgk
                have hrm : D[k]? = some (ddl dv) := by rw [← HDM.out, List.getElem?_map, hdv]; rfl
                have HRC := hid okd.rc
                obtain ⟨s, da, dn, dc, dl⟩ := dv
                dsimp only at f0 f1 HRC
                have hdn := HRC.out.small
                obtain ⟨X, hX⟩ : ∃ X, (if s = y0 then dl.map (spt y) else []) = X := ⟨_, rfl⟩
                have HSK : Hid (qdm y (D.take (k + 1)) = qdm y (D.take k) ++ X) := by
                  rw [Hid, qdm_snoc hrm, ← hX]
                  simp only [ddl, ey]
                have HX1 : Hid (s = y0 → X = dl.map (spt y)) := fun h => by rw [← hX, if_pos h]
                have HX0 : Hid (s ≠ y0 → X = []) := fun h => by rw [← hX, if_neg h]
                obtain ⟨A1, hA1⟩ : ∃ A1, A0 ++ qdm y (D.take k) = A1 := ⟨_, rfl⟩
                have HSA : Hid (A0 ++ qdm y (D.take (k + 1)) = A1 ++ X) := by rw [Hid, HSK.out, ← hA1, List.append_assoc]
                rw [hA1] at H3 ⊢
                clear hA1 HSK hX hrm hdv okd
                go_wp2
                go_loopw [7, 10] (fun s7 i10 wi => ∃ (i : Nat) (b : Option Addr) (d : Nat), i10 = .int .i64 i ∧ s7 = .slice b (dfl (A1 ++ X.take i)).length d ∧ i ≤ X.length ∧ RdC wi b (dfl (A1 ++ X.take i)).length d (dfl (A1 ++ X.take i)) ∧ Below wk.heap.size wk wi) (fun _ i _ => X.length - (numOf i).toNat)
                case atStart => exact ⟨0, b3, d3, rfl, by simp, by omega, by simpa using H3.out, Below.refl _ _⟩
                case round =>
                  obtain ⟨i, b4, d4, rfl, rfl, hi, h4, hbi⟩ := hrel
                  obtain ⟨wi, rfl⟩ : ∃ W, W = wr := ⟨_, rfl⟩
                  have H4 := hid h4
                  have HBI := hid hbi
                  clear h4 hbi H3
                  have hbyk : by_ < wk.heap.size := Nat.lt_of_lt_of_le hby1 HB.out.size
                  have g0 := (HBI.out.cell hbyk).trans ((HB.out.cell hby1).trans d0')
                  have m0 := (HBI.out.cell hbd).trans f0
                  have m1 := (HBI.out.cell hbd).trans f1
                  by_cases hsy : s = y0
                  · have HXE := hid (HX1.out hsy)
                    have HXL : Hid (X.length = dn) := by rw [Hid, HXE.out, List.length_map, HRC.out.len]
                    subst hsy
                    have t1 : (s == s) = true := by simp
                    have g1 := (HBI.out.cell hbyk).trans ((HB.out.cell hby1).trans d1')
                    have g2 := (HBI.out.cell hbyk).trans ((HB.out.cell hby1).trans d2')
                    have g3 := (HBI.out.cell hbyk).trans ((HB.out.cell hby1).trans d3')
                    have g4 := (HBI.out.cell hbyk).trans ((HB.out.cell hby1).trans d4')
                    have g5 := (HBI.out.cell hbyk).trans ((HB.out.cell hby1).trans d5')
                    by_cases hgi : i < dn
                    · have e7 : decide ((i : Int) < dn) = true := decide_eq_true (by omega)
                      have e8 : (i : Int) < dn := by omega
                      obtain ⟨br, or_, r, rfl, hbr, hr, okr, her⟩ := (HRC.out.on HBI.out).el hgi
                      obtain ⟨_, r0, r1, r2, r3⟩ := her
                      have hXi : X[i]? = some (spt y r) := by rw [HXE.out, List.getElem?_map, hr]; rfl
                      have HSI : Hid (A1 ++ X.take (i + 1) = (A1 ++ X.take i) ++ [spt y r]) := by
                        rw [Hid, List.take_add_one, hXi, List.append_assoc]
                        rfl
                      have CSr := hid (fun u => CS.out r u okr)
                      have CAr := hid (fun b d L u => CA.out b d L (spt y r) u (spt_ok y r))
                      have HIX : Hid (i + 1 ≤ X.length) := by rw [Hid, HXL.out]; omega
                      generalize spt y r = Q at CSr CAr HSI
                      have HLT : Hid (by_ < wi.heap.size ∧ bd < wi.heap.size ∧ br < wi.heap.size) := ⟨Nat.lt_of_lt_of_le hbyk HBI.out.size, Nat.lt_of_lt_of_le hbd HBI.out.size, hbr⟩
                      clear hXi okr hr
                      go_wp2
                      go_quiet (fail)
                      have HBU := hid (below_drewN (Below.refl wi.heap.size wi) nq)
                      have H4U := hid (H4.out.on HBU.out)
                      have k0 := (HBU.out.cell HLT.out.1).trans g0
                      have k1 := (HBU.out.cell HLT.out.1).trans g1
                      have k2 := (HBU.out.cell HLT.out.1).trans g2
                      have k3 := (HBU.out.cell HLT.out.1).trans g3
                      have k4 := (HBU.out.cell HLT.out.1).trans g4
                      have k5 := (HBU.out.cell HLT.out.1).trans g5
                      have l0 := (HBU.out.cell HLT.out.2.1).trans m0
                      have l1 := (HBU.out.cell HLT.out.2.1).trans m1
                      have p0 := (HBU.out.cell HLT.out.2.2).trans r0
                      have p1 := (HBU.out.cell HLT.out.2.2).trans r1
                      have p2 := (HBU.out.cell HLT.out.2.2).trans r2
                      have p3 := (HBU.out.cell HLT.out.2.2).trans r3
                      have HLU : Hid (by_ < (wi.drewN nq).heap.size ∧ bd < (wi.drewN nq).heap.size ∧ br < (wi.drewN nq).heap.size) := ⟨Nat.lt_of_lt_of_le HLT.out.1 HBU.out.size, Nat.lt_of_lt_of_le HLT.out.2.1 HBU.out.size, Nat.lt_of_lt_of_le HLT.out.2.2 HBU.out.size⟩
                      have HBK := hid (Below.on HBI.out HBU.out)
                      generalize wi.drewN nq = U at HBU H4U k0 k1 k2 k3 k4 k5 l0 l1 p0 p1 p2 p3 HLU HBK ⊢
                      clear g0 g1 g2 g3 g4 g5 m0 m1 r0 r1 r2 r3 H4 HBI HBU HLT
                      go_upto_region 12 with fail
                      refine wp_region_held_drew (S := fun x => Below U.heap.size U x) (by kernel_rfl) ?hh (fun hHeld => ?_)
                      case hh => exact ((Below.refl _ _).drew)
                      refine wpAnyH_take (i := 0) (v := ?_) rfl (by kernel_rfl) (by kernel_rfl) (by kernel_rfl) (fun _ _ _ h => h) (Or.inl ⟨by kernel_rfl, ?hy0⟩) (by assumption) ?_
                      case hy0 => (intro w hSw; (try dsimp only at hSw); have q0 := (hSw.cell HLU.out.1).trans k0; have q1 := (hSw.cell HLU.out.1).trans k1; have q2 := (hSw.cell HLU.out.1).trans k2; have q3 := (hSw.cell HLU.out.1).trans k3; have q4 := (hSw.cell HLU.out.1).trans k4; have q5 := (hSw.cell HLU.out.1).trans k5; have q6 := (hSw.cell HLU.out.2.1).trans l1; have q7 := (hSw.cell HLU.out.2.2).trans p0; have q8 := (hSw.cell HLU.out.2.2).trans p1; have q9 := (hSw.cell HLU.out.2.2).trans p2; have qa := (hSw.cell HLU.out.2.2).trans p3; go_simp; try with_reducible rfl)
                      try simp only [Act.put, List.getElem_toArray, List.getElem_cons_zero, List.setIfInBounds_toArray, List.set_cons_zero, List.set_cons_succ]
                      refine wpAnyH_take (i := 1) (v := ?_) rfl (by kernel_rfl) (by kernel_rfl) (by kernel_rfl) (fun _ _ _ h => h) (Or.inl ⟨by kernel_rfl, ?hy1⟩) (by assumption) ?_
                      case hy1 => (intro w hSw; (try dsimp only at hSw); have q0 := (hSw.cell HLU.out.1).trans k0; have q1 := (hSw.cell HLU.out.1).trans k1; have q2 := (hSw.cell HLU.out.1).trans k2; have q3 := (hSw.cell HLU.out.1).trans k3; have q4 := (hSw.cell HLU.out.1).trans k4; have q5 := (hSw.cell HLU.out.1).trans k5; have q6 := (hSw.cell HLU.out.2.1).trans l1; have q7 := (hSw.cell HLU.out.2.2).trans p0; have q8 := (hSw.cell HLU.out.2.2).trans p1; have q9 := (hSw.cell HLU.out.2.2).trans p2; have qa := (hSw.cell HLU.out.2.2).trans p3; go_simp; try with_reducible rfl)
                      try simp only [Act.put, List.getElem_toArray, List.getElem_cons_zero, List.getElem_cons_succ, List.setIfInBounds_toArray, List.set_cons_zero, List.set_cons_succ]
                      refine wpAnyH_take (i := 2) (v := ?_) rfl (by kernel_rfl) (by kernel_rfl) (by kernel_rfl) (fun _ _ _ h => h) (Or.inl ⟨by kernel_rfl, ?hy2⟩) (by assumption) ?_
                      case hy2 => (intro w hSw; (try dsimp only at hSw); have q0 := (hSw.cell HLU.out.1).trans k0; have q1 := (hSw.cell HLU.out.1).trans k1; have q2 := (hSw.cell HLU.out.1).trans k2; have q3 := (hSw.cell HLU.out.1).trans k3; have q4 := (hSw.cell HLU.out.1).trans k4; have q5 := (hSw.cell HLU.out.1).trans k5; have q6 := (hSw.cell HLU.out.2.1).trans l1; have q7 := (hSw.cell HLU.out.2.2).trans p0; have q8 := (hSw.cell HLU.out.2.2).trans p1; have q9 := (hSw.cell HLU.out.2.2).trans p2; have qa := (hSw.cell HLU.out.2.2).trans p3; go_simp; try with_reducible rfl)
                      try simp only [Act.put, List.getElem_toArray, List.getElem_cons_zero, List.getElem_cons_succ, List.setIfInBounds_toArray, List.set_cons_zero, List.set_cons_succ]
                      refine wpAnyH_take (i := 3) (v := ?_) rfl (by kernel_rfl) (by kernel_rfl) (by kernel_rfl) (fun _ _ _ h => h) (Or.inl ⟨by kernel_rfl, ?hy3⟩) (by assumption) ?_
                      case hy3 => (intro w hSw; (try dsimp only at hSw); have q0 := (hSw.cell HLU.out.1).trans k0; have q1 := (hSw.cell HLU.out.1).trans k1; have q2 := (hSw.cell HLU.out.1).trans k2; have q3 := (hSw.cell HLU.out.1).trans k3; have q4 := (hSw.cell HLU.out.1).trans k4; have q5 := (hSw.cell HLU.out.1).trans k5; have q6 := (hSw.cell HLU.out.2.1).trans l1; have q7 := (hSw.cell HLU.out.2.2).trans p0; have q8 := (hSw.cell HLU.out.2.2).trans p1; have q9 := (hSw.cell HLU.out.2.2).trans p2; have qa := (hSw.cell HLU.out.2.2).trans p3; go_simp; try with_reducible rfl)
                      try simp only [Act.put, List.getElem_toArray, List.getElem_cons_zero, List.getElem_cons_succ, List.setIfInBounds_toArray, List.set_cons_zero, List.set_cons_succ]
                      refine wpAnyH_take (i := 4) (v := ?_) rfl (by kernel_rfl) (by kernel_rfl) (by kernel_rfl) (fun _ _ _ h => h) (Or.inl ⟨by kernel_rfl, ?hy4⟩) (by assumption) ?_
                      case hy4 => (intro w hSw; (try dsimp only at hSw); have q0 := (hSw.cell HLU.out.1).trans k0; have q1 := (hSw.cell HLU.out.1).trans k1; have q2 := (hSw.cell HLU.out.1).trans k2; have q3 := (hSw.cell HLU.out.1).trans k3; have q4 := (hSw.cell HLU.out.1).trans k4; have q5 := (hSw.cell HLU.out.1).trans k5; have q6 := (hSw.cell HLU.out.2.1).trans l1; have q7 := (hSw.cell HLU.out.2.2).trans p0; have q8 := (hSw.cell HLU.out.2.2).trans p1; have q9 := (hSw.cell HLU.out.2.2).trans p2; have qa := (hSw.cell HLU.out.2.2).trans p3; go_simp; try with_reducible rfl)
                      try simp only [Act.put, List.getElem_toArray, List.getElem_cons_zero, List.getElem_cons_succ, List.setIfInBounds_toArray, List.set_cons_zero, List.set_cons_succ]
                      refine wpAnyH_take (i := 5) (v := ?_) rfl (by kernel_rfl) (by kernel_rfl) (by kernel_rfl) (fun _ _ _ h => h) (Or.inl ⟨by kernel_rfl, ?hy5⟩) (by assumption) ?_
                      case hy5 => (intro w hSw; (try dsimp only at hSw); have q0 := (hSw.cell HLU.out.1).trans k0; have q1 := (hSw.cell HLU.out.1).trans k1; have q2 := (hSw.cell HLU.out.1).trans k2; have q3 := (hSw.cell HLU.out.1).trans k3; have q4 := (hSw.cell HLU.out.1).trans k4; have q5 := (hSw.cell HLU.out.1).trans k5; have q6 := (hSw.cell HLU.out.2.1).trans l1; have q7 := (hSw.cell HLU.out.2.2).trans p0; have q8 := (hSw.cell HLU.out.2.2).trans p1; have q9 := (hSw.cell HLU.out.2.2).trans p2; have qa := (hSw.cell HLU.out.2.2).trans p3; go_simp; try with_reducible rfl)
                      try simp only [Act.put, List.getElem_toArray, List.getElem_cons_zero, List.getElem_cons_succ, List.setIfInBounds_toArray, List.set_cons_zero, List.set_cons_succ]
                      refine wpAnyH_take (i := 6) (v := ?_) rfl (by kernel_rfl) (by kernel_rfl) (by kernel_rfl) (fun _ _ _ h => h) (Or.inl ⟨by kernel_rfl, ?hy6⟩) (by assumption) ?_
                      case hy6 => (intro w hSw; (try dsimp only at hSw); have q0 := (hSw.cell HLU.out.1).trans k0; have q1 := (hSw.cell HLU.out.1).trans k1; have q2 := (hSw.cell HLU.out.1).trans k2; have q3 := (hSw.cell HLU.out.1).trans k3; have q4 := (hSw.cell HLU.out.1).trans k4; have q5 := (hSw.cell HLU.out.1).trans k5; have q6 := (hSw.cell HLU.out.2.1).trans l1; have q7 := (hSw.cell HLU.out.2.2).trans p0; have q8 := (hSw.cell HLU.out.2.2).trans p1; have q9 := (hSw.cell HLU.out.2.2).trans p2; have qa := (hSw.cell HLU.out.2.2).trans p3; go_simp; try with_reducible rfl)
                      try simp only [Act.put, List.getElem_toArray, List.getElem_cons_zero, List.getElem_cons_succ, List.setIfInBounds_toArray, List.set_cons_zero, List.set_cons_succ]
                      refine wpAnyH_take (i := 7) (v := ?_) rfl (by kernel_rfl) (by kernel_rfl) (by kernel_rfl) (fun _ _ _ h => h) (Or.inl ⟨by kernel_rfl, ?hy7⟩) (by assumption) ?_
                      case hy7 => (intro w hSw; (try dsimp only at hSw); have q0 := (hSw.cell HLU.out.1).trans k0; have q1 := (hSw.cell HLU.out.1).trans k1; have q2 := (hSw.cell HLU.out.1).trans k2; have q3 := (hSw.cell HLU.out.1).trans k3; have q4 := (hSw.cell HLU.out.1).trans k4; have q5 := (hSw.cell HLU.out.1).trans k5; have q6 := (hSw.cell HLU.out.2.1).trans l1; have q7 := (hSw.cell HLU.out.2.2).trans p0; have q8 := (hSw.cell HLU.out.2.2).trans p1; have q9 := (hSw.cell HLU.out.2.2).trans p2; have qa := (hSw.cell HLU.out.2.2).trans p3; go_simp; try with_reducible rfl)
                      try simp only [Act.put, List.getElem_toArray, List.getElem_cons_zero, List.getElem_cons_succ, List.setIfInBounds_toArray, List.set_cons_zero, List.set_cons_succ]
                      refine wpAnyH_take (i := 8) (v := ?_) rfl (by kernel_rfl) (by kernel_rfl) (by kernel_rfl) (fun _ _ _ h => h) (Or.inl ⟨by kernel_rfl, ?hy8⟩) (by assumption) ?_
                      case hy8 => (intro w hSw; (try dsimp only at hSw); have q0 := (hSw.cell HLU.out.1).trans k0; have q1 := (hSw.cell HLU.out.1).trans k1; have q2 := (hSw.cell HLU.out.1).trans k2; have q3 := (hSw.cell HLU.out.1).trans k3; have q4 := (hSw.cell HLU.out.1).trans k4; have q5 := (hSw.cell HLU.out.1).trans k5; have q6 := (hSw.cell HLU.out.2.1).trans l1; have q7 := (hSw.cell HLU.out.2.2).trans p0; have q8 := (hSw.cell HLU.out.2.2).trans p1; have q9 := (hSw.cell HLU.out.2.2).trans p2; have qa := (hSw.cell HLU.out.2.2).trans p3; go_simp; try with_reducible rfl)
                      try simp only [Act.put, List.getElem_toArray, List.getElem_cons_zero, List.getElem_cons_succ, List.setIfInBounds_toArray, List.set_cons_zero, List.set_cons_succ]
                      refine wpAnyH_take (i := 9) (v := ?_) rfl (by kernel_rfl) (by kernel_rfl) (by kernel_rfl) (fun _ _ _ h => h) (Or.inl ⟨by kernel_rfl, ?hy9⟩) (by assumption) ?_
                      case hy9 => (intro w hSw; (try dsimp only at hSw); have q0 := (hSw.cell HLU.out.1).trans k0; have q1 := (hSw.cell HLU.out.1).trans k1; have q2 := (hSw.cell HLU.out.1).trans k2; have q3 := (hSw.cell HLU.out.1).trans k3; have q4 := (hSw.cell HLU.out.1).trans k4; have q5 := (hSw.cell HLU.out.1).trans k5; have q6 := (hSw.cell HLU.out.2.1).trans l1; have q7 := (hSw.cell HLU.out.2.2).trans p0; have q8 := (hSw.cell HLU.out.2.2).trans p1; have q9 := (hSw.cell HLU.out.2.2).trans p2; have qa := (hSw.cell HLU.out.2.2).trans p3; go_simp; try with_reducible rfl)
                      try simp only [Act.put, List.getElem_toArray, List.getElem_cons_zero, List.getElem_cons_succ, List.setIfInBounds_toArray, List.set_cons_zero, List.set_cons_succ]
                      refine wpAnyH_take (i := 10) (v := ?_) rfl (by kernel_rfl) (by kernel_rfl) (by kernel_rfl) (fun _ _ _ h => h) (Or.inl ⟨by kernel_rfl, ?hy10⟩) (by assumption) ?_
                      case hy10 => (intro w hSw; (try dsimp only at hSw); have q0 := (hSw.cell HLU.out.1).trans k0; have q1 := (hSw.cell HLU.out.1).trans k1; have q2 := (hSw.cell HLU.out.1).trans k2; have q3 := (hSw.cell HLU.out.1).trans k3; have q4 := (hSw.cell HLU.out.1).trans k4; have q5 := (hSw.cell HLU.out.1).trans k5; have q6 := (hSw.cell HLU.out.2.1).trans l1; have q7 := (hSw.cell HLU.out.2.2).trans p0; have q8 := (hSw.cell HLU.out.2.2).trans p1; have q9 := (hSw.cell HLU.out.2.2).trans p2; have qa := (hSw.cell HLU.out.2.2).trans p3; go_simp; try with_reducible rfl)
                      try simp only [Act.put, List.getElem_toArray, List.getElem_cons_zero, List.getElem_cons_succ, List.setIfInBounds_toArray, List.set_cons_zero, List.set_cons_succ]
                      refine wpAnyH_take (i := 11) (v := ?_) rfl (by kernel_rfl) (by kernel_rfl) (by kernel_rfl) (fun _ _ _ h => h) (Or.inl ⟨by kernel_rfl, ?hy11⟩) (by assumption) ?_
                      case hy11 => (intro w hSw; (try dsimp only at hSw); have q0 := (hSw.cell HLU.out.1).trans k0; have q1 := (hSw.cell HLU.out.1).trans k1; have q2 := (hSw.cell HLU.out.1).trans k2; have q3 := (hSw.cell HLU.out.1).trans k3; have q4 := (hSw.cell HLU.out.1).trans k4; have q5 := (hSw.cell HLU.out.1).trans k5; have q6 := (hSw.cell HLU.out.2.1).trans l1; have q7 := (hSw.cell HLU.out.2.2).trans p0; have q8 := (hSw.cell HLU.out.2.2).trans p1; have q9 := (hSw.cell HLU.out.2.2).trans p2; have qa := (hSw.cell HLU.out.2.2).trans p3; go_simp; try with_reducible rfl)
                      try simp only [Act.put, List.getElem_toArray, List.getElem_cons_zero, List.getElem_cons_succ, List.setIfInBounds_toArray, List.set_cons_zero, List.set_cons_succ]
                      refine wpAnyH_take (i := 12) (v := ?_) rfl (by kernel_rfl) (by kernel_rfl) (by kernel_rfl) (fun _ _ _ h => h) (Or.inl ⟨by kernel_rfl, ?hy12⟩) (by assumption) ?_
                      case hy12 => (intro w hSw; (try dsimp only at hSw); have q0 := (hSw.cell HLU.out.1).trans k0; have q1 := (hSw.cell HLU.out.1).trans k1; have q2 := (hSw.cell HLU.out.1).trans k2; have q3 := (hSw.cell HLU.out.1).trans k3; have q4 := (hSw.cell HLU.out.1).trans k4; have q5 := (hSw.cell HLU.out.1).trans k5; have q6 := (hSw.cell HLU.out.2.1).trans l1; have q7 := (hSw.cell HLU.out.2.2).trans p0; have q8 := (hSw.cell HLU.out.2.2).trans p1; have q9 := (hSw.cell HLU.out.2.2).trans p2; have qa := (hSw.cell HLU.out.2.2).trans p3; go_simp; try with_reducible rfl)
                      try simp only [Act.put, List.getElem_toArray, List.getElem_cons_zero, List.getElem_cons_succ, List.setIfInBounds_toArray, List.set_cons_zero, List.set_cons_succ]
                      refine wpAnyH_ready (rs := [13]) (by kernel_rfl) (by simp) ?_
                      refine AllReadyH.cons rfl (fun K hK => ?_) AllReadyH.nil
                      go_simp
                      go_wp2_with fail
                      refine (CSr.out _).mono ?_
                      rintro e v1 ⟨rfl, hb1⟩
                      have hH := Below.on hHeld hb1
                      refine hK.out _ _ hH (fun _ => ?_)
                      clear hK K hHeld hb1
                      have hHeld := hH
                      clear hH
                      refine wpAnyH_ready (rs := [14]) (by kernel_rfl) (by simp) ?_
                      refine AllReadyH.cons rfl (fun K hK => ?_) AllReadyH.nil
                      go_simp
                      go_wp2_with fail
                      refine (CAr.out _ _ _ _ (H4U.out.on hHeld)).mono ?_
                      rintro e v2 ⟨a5, c5, rfl, h5, hb5⟩
                      have H5 := hid h5
                      have hH := Below.on hHeld hb5
                      refine hK.out _ _ hH (fun _ => ?_)
                      clear hK K hHeld hb5 h5
                      have hHeld := hH
                      clear hH
                      refine wpAnyH_take (i := 15) (v := ?_) rfl (by kernel_rfl) (by kernel_rfl) (by kernel_rfl) (fun _ _ _ h => h) (Or.inl ⟨by kernel_rfl, ?hy15⟩) (by assumption) ?_
                      case hy15 => (intro w hSw; (try dsimp only at hSw); have q0 := (hSw.cell HLU.out.1).trans k0; have q1 := (hSw.cell HLU.out.1).trans k1; have q2 := (hSw.cell HLU.out.1).trans k2; have q3 := (hSw.cell HLU.out.1).trans k3; have q4 := (hSw.cell HLU.out.1).trans k4; have q5 := (hSw.cell HLU.out.1).trans k5; have q6 := (hSw.cell HLU.out.2.1).trans l1; have q7 := (hSw.cell HLU.out.2.2).trans p0; have q8 := (hSw.cell HLU.out.2.2).trans p1; have q9 := (hSw.cell HLU.out.2.2).trans p2; have qa := (hSw.cell HLU.out.2.2).trans p3; go_simp; try with_reducible rfl)
                      try simp only [Act.put, List.getElem_toArray, List.getElem_cons_zero, List.getElem_cons_succ, List.setIfInBounds_toArray, List.set_cons_zero, List.set_cons_succ]
                      refine wpAnyH_done (by kernel_rfl) ?_ _
                      have HB5 := hid (Below.on HBK.out hHeld)
                      clear hHeld k0 k1 k2 k3 k4 k5 l0 l1 p0 p1 p2 p3 H4U HBK HLU
                      go_wp2
                      go_roundw
                      case rel => exact ⟨i + 1, a5, c5, by go_num, by rw [HSI.out, List.append_assoc], HIX.out, by rw [HSI.out]; exact H5.out, HB5.out⟩
                      case measure =>
                        have := HIX.out
                        simp [numOf]; omega
                    · have e7 : decide ((i : Int) < dn) = false := decide_eq_false (by omega)
                      have HT : Hid (X.take i = X) := List.take_of_length_le (by rw [HXL.out]; omega)
                      rw [HT.out] at H4
                      have HZ : Hid (dfl (A1 ++ X.take i) = dfl (A1 ++ X)) := by rw [Hid, HT.out]
                      rw [HZ.out]
                      go_wp2
                      go_quiet (fail)
                      have HBU := hid (Below.on HB.out (below_drewN HBI.out nq))
                      have H4U := hid (H4.out.on (below_drewN (Below.refl wi.heap.size wi) nq))
                      go_wp2
                      go_roundw
                      case rel => exact ⟨k + 1, b4, d4, by go_num, by rw [HSA.out], by omega, by rw [HSA.out]; exact H4U.out, HBU.out⟩
                      case measure => simp [numOf]; omega
                  · have HXE := hid (HX0.out hsy)
                    have t1 : (s == y0) = false := by simpa using hsy
                    have HZ : Hid (dfl (A1 ++ X.take i) = dfl (A1 ++ X)) := by rw [Hid, HXE.out]; simp
                    rw [HZ.out] at H4 ⊢
                    clear hsy
                    go_wp2
                    go_quiet (fail)
                    have HBU := hid (Below.on HB.out (below_drewN HBI.out nq))
                    have H4U := hid (H4.out.on (below_drewN (Below.refl wi.heap.size wi) nq))
                    go_wp2
                    go_roundw
                    case rel => exact ⟨k + 1, b4, d4, by go_num, by rw [HSA.out], by omega, by rw [HSA.out]; exact H4U.out, HBU.out⟩
                    case measure => simp [numOf]; omega
              · have e5 : decide ((k : Int) < n2) = false := decide_eq_false (by omega)
                have HT : Hid (D.take k = D) := List.take_of_length_le (by rw [← HDM.out, List.length_map, HLD.out]; omega)
                rw [HT.out] at H3 ⊢
                have HBU := hid (Below.on HB1.out HB.out)
                go_wp2
                go_roundw
                case rel => exact ⟨j + 1, b3, d3, by go_num, by rw [HS.out], by omega, by rw [HS.out]; exact H3.out, HBU.out⟩
                case measure => simp [numOf]; omega
          · rw [show leq [x0, x1, x2, x3, x4, x5] [y0, y1, y2, y3, y4, y5] = false from decide_eq_false hxy] at hn0
            rw [chp_diff (fun e => hxy (Option.some.inj e))] at HS
            have HS2 : Hid (chN o v D (j + 1) = (A0 ++ [⟨x2, x3, x4, x5⟩]) ++ [⟨y2, y3, y4, y5⟩]) := by
              rw [Hid, HS.out, List.append_assoc]
              rfl
            clear hxy HS
            go_wp2
            go_quiet (fail)
            have HB1 := hid (below_drewN (Below.refl wr.heap.size wr) nq)
            have HB1w := hid (Below.on HB.out HB1.out)
            have H31 := hid (H3.out.drewN nq)
            have HLT : Hid (bx < (wr.drewN nq).heap.size ∧ by_ < (wr.drewN nq).heap.size) := ⟨Nat.lt_of_lt_of_le hbx HB1.out.size, Nat.lt_of_lt_of_le hby HB1.out.size⟩
            have k0 := (HB1.out.cell hbx).trans c0
            have k1 := (HB1.out.cell hbx).trans c1
            have k2 := (HB1.out.cell hbx).trans c2
            have k3 := (HB1.out.cell hbx).trans c3
            have k4 := (HB1.out.cell hbx).trans c4
            have k5 := (HB1.out.cell hbx).trans c5
            have l0 := (HB1.out.cell hby).trans d0
            have l1 := (HB1.out.cell hby).trans d1
            have l2 := (HB1.out.cell hby).trans d2
            have l3 := (HB1.out.cell hby).trans d3
            have l4 := (HB1.out.cell hby).trans d4
            have l5 := (HB1.out.cell hby).trans d5
            generalize wr.drewN nq = W1 at HB1 HB1w H31 HLT k0 k1 k2 k3 k4 k5 l0 l1 l2 l3 l4 l5 ⊢
            clear c0 c1 c2 c3 c4 c5 d0 d1 d2 d3 d4 d5 hby hbx HB H3 hn0 HB1
            go_wp2_with fail
            refine (qrrect_any x0 x1 x2 x3 x4 x5 _).mono ?_
            rintro e v1 ⟨rfl, hb1⟩
            have HB2 := hid hb1
            have H32 := hid (H31.out.on hb1)
            clear hb1 H31
            go_wp2_with fail
            refine (CX.out _ _ _ _ H32.out).mono ?_
            rintro e v2 ⟨a5, c5, rfl, h5, hb5⟩
            have H5 := hid h5
            have HB3 := hid (Below.on HB2.out hb5)
            clear h5 hb5 H32 HB2 CX k0 k1 k2 k3 k4 k5
            have l0' := (HB3.out.cell HLT.out.2).trans l0
            have l1' := (HB3.out.cell HLT.out.2).trans l1
            have l2' := (HB3.out.cell HLT.out.2).trans l2
            have l3' := (HB3.out.cell HLT.out.2).trans l3
            have l4' := (HB3.out.cell HLT.out.2).trans l4
            have l5' := (HB3.out.cell HLT.out.2).trans l5
            have HB3w := hid (Below.on HB1w.out HB3.out)
            clear l0 l1 l2 l3 l4 l5 HLT HB3 HB1w
            go_wp2_with fail
            refine (qrrect_any y0 y1 y2 y3 y4 y5 _).mono ?_
            rintro e v3 ⟨rfl, hb6⟩
            have HB4 := hid (Below.on HB3w.out hb6)
            have H6 := hid (H5.out.on hb6)
            clear hb6 H5 HB3w l0' l1' l2' l3' l4' l5'
            go_wp2_with fail
            refine (CY.out _ _ _ _ H6.out).mono ?_
            rintro e v4 ⟨a7, c7, rfl, h7, hb7⟩
            have H7 := hid h7
            have HB7 := hid (Below.on HB4.out hb7)
            rw [← HS2.out] at H7
            clear h7 hb7 H6 HB4 CY
            go_wp2
            go_roundw
            case rel => exact ⟨j + 1, a7, c7, by go_num, by rw [HS2.out, List.append_assoc, List.cons_append, List.nil_append], by omega, H7.out, HB7.out⟩
            case measure => simp [numOf]; omega
        · have e3 : decide ((j : Int) < n') = false := decide_eq_false (by omega)
          have hov : v[j]? = none := List.getElem?_eq_none (by rw [HL'.out]; omega)
          rw [hov, chp_diff (by simp)] at HS
          have HS2 : Hid (chN o v D (j + 1) = A0 ++ [⟨x2, x3, x4, x5⟩]) := HS
          clear HS hov
          go_wp2
          go_quiet (fail)
          have HB1 := hid (below_drewN (Below.refl wr.heap.size wr) nq)
          have HB1w := hid (Below.on HB.out HB1.out)
          have H31 := hid (H3.out.drewN nq)
          have k0 := (HB1.out.cell hbx).trans c0
          have k1 := (HB1.out.cell hbx).trans c1
          have k2 := (HB1.out.cell hbx).trans c2
          have k3 := (HB1.out.cell hbx).trans c3
          have k4 := (HB1.out.cell hbx).trans c4
          have k5 := (HB1.out.cell hbx).trans c5
          generalize wr.drewN nq = W1 at HB1 HB1w H31 k0 k1 k2 k3 k4 k5 ⊢
          clear c0 c1 c2 c3 c4 c5 hbx HB H3 HB1
          go_wp2_with fail
          refine (qrrect_any x0 x1 x2 x3 x4 x5 _).mono ?_
          rintro e v1 ⟨rfl, hb1⟩
          have HB2 := hid (Below.on HB1w.out hb1)
          have H32 := hid (H31.out.on hb1)
          clear hb1 H31 HB1w
          go_wp2_with fail
          refine (CX.out _ _ _ _ H32.out).mono ?_
          rintro e v2 ⟨a5, c5, rfl, h5, hb5⟩
          have H5 := hid h5
          have HB3 := hid (Below.on HB2.out hb5)
          rw [← HS2.out] at H5
          clear h5 hb5 H32 HB2 CX k0 k1 k2 k3 k4 k5
          go_wp2
          go_roundw
          case rel => exact ⟨j + 1, a5, c5, by go_num, by rw [HS2.out], by omega, H5.out, HB3.out⟩
          case measure => simp [numOf]; omega
      · have e1 : decide ((j : Int) < n) = false := decide_eq_false (by omega)
        have hjn' : j < n' := by have := HM.out; omega
        have e3 : decide ((j : Int) < n') = true := decide_eq_true (by omega)
        have e4 : (j : Int) < n' := by omega
        obtain ⟨by_, oy, y0, y1, y2, y3, y4, y5, rfl, hby, hoy, d0, d1, d2, d3, d4, d5⟩ := (HR'.out.on HB.out).el6 hjn'
        have oky := HVV.out _ (List.mem_of_getElem? hoy)
        have hov : o[j]? = none := List.getElem?_eq_none (by rw [HL.out]; omega)
        rw [hoy, hov, chp_diff (by simp)] at HS
        have HS2 : Hid (chN o v D (j + 1) = A0 ++ [⟨y2, y3, y4, y5⟩]) := HS
        have CY := hid (fun b d L u => CA.out b d L (vrc [y0, y1, y2, y3, y4, y5]) u oky)
        rw [show vrc [y0, y1, y2, y3, y4, y5] = ⟨y2, y3, y4, y5⟩ from rfl] at CY
        clear HS hov oky hoy hne
        go_wp2
        go_quiet (fail)
        have HB1 := hid (below_drewN (Below.refl wr.heap.size wr) nq)
        have HB1w := hid (Below.on HB.out HB1.out)
        have H31 := hid (H3.out.drewN nq)
        have k0 := (HB1.out.cell hby).trans d0
        have k1 := (HB1.out.cell hby).trans d1
        have k2 := (HB1.out.cell hby).trans d2
        have k3 := (HB1.out.cell hby).trans d3
        have k4 := (HB1.out.cell hby).trans d4
        have k5 := (HB1.out.cell hby).trans d5
        generalize wr.drewN nq = W1 at HB1 HB1w H31 k0 k1 k2 k3 k4 k5 ⊢
        clear d0 d1 d2 d3 d4 d5 hby HB H3 HB1
        go_wp2_with fail
        refine (qrrect_any y0 y1 y2 y3 y4 y5 _).mono ?_
        rintro e v1 ⟨rfl, hb1⟩
        have HB2 := hid (Below.on HB1w.out hb1)
        have H32 := hid (H31.out.on hb1)
        clear hb1 H31 HB1w
        go_wp2_with fail
        refine (CY.out _ _ _ _ H32.out).mono ?_
        rintro e v2 ⟨a5, c5, rfl, h5, hb5⟩
        have H5 := hid h5
        have HB3 := hid (Below.on HB2.out hb5)
        rw [← HS2.out] at H5
        clear h5 hb5 H32 HB2 CY k0 k1 k2 k3 k4 k5
        go_wp2
        go_roundw
        case rel => exact ⟨j + 1, a5, c5, by go_num, by rw [HS2.out], by omega, H5.out, HB3.out⟩
        case measure => simp [numOf]; omega
    · have e1 : decide ((j : Int) < n) = false := decide_eq_false (by have := HM.out; omega)
      have e3 : decide ((j : Int) < n') = false := decide_eq_false (by have := HM.out; omega)
      have q1 : n ≤ j := by have := HM.out; omega
      have q2 : n' ≤ j := by have := HM.out; omega
      obtain rfl : j = M := by omega
      rw [HE.out] at H3 ⊢
      go_wp2
      go_ret
      exact ⟨_, _, rfl, H3.out, HB.out⟩
end Go.Proofs.Ytlkodgmnhphfcaa

/- tableaulaw09's awake. -/
namespace Go.Proofs.Ytlkodgmnhphfcaa
open Go Go.RowKit

theorem dput_nil {r : Rc} (k : Ck r) : dput [] r = [r] := by
  have hd := dor reg_nil r
  have e : mk or [] (ofl r) = [r] := reg_eq hd.1 (reg_one k) fun x y => by rw [hd.2, ofl_ck k, pt_nil, Bool.false_or]
  rw [dput, e, if_neg (by simp)]
theorem ex_add : dput (dfl []) ⟨0, 0, 2, 2⟩ = [⟨0, 0, 2, 2⟩] := dput_nil ⟨by decide, by decide, by decide, by decide, by decide, by decide⟩
theorem ex_clip : mk and (dfl [⟨0, 0, 2, 2⟩]) (ofl ⟨5, 0, 1, 1⟩) = [] := by
  have k1 : Ck ⟨0, 0, 2, 2⟩ := ⟨by decide, by decide, by decide, by decide, by decide, by decide⟩
  have k2 : Ck ⟨5, 0, 1, 1⟩ := ⟨by decide, by decide, by decide, by decide, by decide, by decide⟩
  rw [show dfl [⟨0, 0, 2, 2⟩] = dput [] ⟨0, 0, 2, 2⟩ from rfl, dput_nil k1, ofl_ck k2]
  obtain ⟨h1, h2, _⟩ := mk_all (f := and) rfl (reg_one k1).ck (reg_one k2).ck
  refine reg_eq h1 reg_nil fun x y => ?_
  rw [h2, pt_nil, ← Bool.not_eq_true, Bool.and_eq_true, pt_iff, pt_iff]
  simp only [List.mem_singleton, exists_eq_left, has_iff]
  omega

end Go.Proofs.Ytlkodgmnhphfcaa

/- Regions that draw their order and end with stores: a condition that is held up to ONE operation (the gate), which waits for all that read. No program. -/
namespace Go.Proofs.Ytlkodgmnhphfcaa
open Go

section
variable {P : Program} {ops : Array Oper} {Q : Exit → Act → World → Prop} {md : Region.Mode} {S : World → Prop}

/-- Whatever order is picked from here on; S holds behind every operation that is carried out as long as g has not come up. -/
def wpAnyG (P : Program) (md : Region.Mode) (ops : Array Oper) (Q : Exit → Act → World → Prop) (S : World → Prop) (g : Nat) : Nat → Array Bool → Act → World → Prop
  | 0, listed, a, w => Region.ready md ops listed = [] ∧ Q .normal a w
  | fuel + 1, listed, a, w =>
    (Region.ready md ops listed = [] → Q .normal a w) ∧
    ∀ i ∈ Region.ready md ops listed, wpOp P ops Q i (fun a' w' => ((listed.setIfInBounds i true).getD g true = false → S w') ∧ wpAnyG P md ops Q S g fuel (listed.setIfInBounds i true) a' w') a w

theorem wpAny_of_gate {g : Nat} : ∀ (fuel : Nat) (listed : Array Bool) (a : Act) (w : World), wpAnyG P md ops Q S g fuel listed a w → wpAny P md ops Q fuel listed a w
  | 0, _, _, _, h => h
  | fuel + 1, _, _, _, h => ⟨h.1, fun i hi => wpOp_mono (fun a' w' h' => wpAny_of_gate fuel _ a' w' h'.2) (h.2 i hi)⟩

/-- g waits for i, through others too. -/
def waits (md : Region.Mode) (ops : Array Oper) : Nat → Nat → Nat → Bool
  | 0, _, _ => false
  | k + 1, g, i => match ops[g]? with
    | some o => o.after.any fun e => Region.binds md e && ((e.on == i) || waits md ops k e.on i)
    | none => false
/-- What has come up waited for nothing that has not. -/
def closedB (md : Region.Mode) (ops : Array Oper) (listed : Array Bool) : Bool := (List.range ops.size).all fun j => !listed.getD j false || match ops[j]? with
  | some o => o.after.all fun e => !Region.binds md e || listed.getD e.on false
  | none => true
def Closed (md : Region.Mode) (ops : Array Oper) (listed : Array Bool) : Prop := ∀ (j : Nat) o, ops[j]? = some o → listed.getD j false = true → ∀ e ∈ o.after, Region.binds md e = true → listed.getD e.on false = true
theorem closed_of {listed : Array Bool} (h : closedB md ops listed = true) : Closed md ops listed := fun j o ho hl e he hb => by
  have hj : j < ops.size := (Array.getElem?_eq_some_iff.1 ho).1
  have h1 := List.all_eq_true.1 h j (List.mem_range.2 hj)
  rw [hl, ho] at h1
  simp only [Bool.not_true, Bool.false_or] at h1
  have h2 := Array.all_eq_true'.1 h1 e he
  rw [hb] at h2
  simpa using h2
theorem closed_set {listed : Array Bool} {j : Nat} (h : Closed md ops listed) (hj : j ∈ Region.ready md ops listed) : Closed md ops (listed.setIfInBounds j true) := fun k o ho hl e he hb => by
  obtain ⟨_, oj, hoj, hall⟩ := mem_ready.1 hj
  refine getD_set_true ?_
  by_cases hjk : j = k
  · subst hjk
    rw [hoj] at ho
    cases ho
    exact hall e he hb
  · rw [getD_set_ne false hjk] at hl
    exact h k o ho hl e he hb
theorem waits_deps {i : Nat} {listed : Array Bool} (hc : Closed md ops listed) (hi : listed.getD i false = false) : ∀ (k g : Nat), waits md ops k g i = true → ∀ o, ops[g]? = some o → ¬ ∀ e ∈ o.after, Region.binds md e = true → listed.getD e.on false = true
  | 0, _, hw, _, _ => by simp [waits] at hw
  | k + 1, g, hw, o, ho => fun hall => by
    rw [waits, ho] at hw
    obtain ⟨e, he, hb⟩ := Array.any_eq_true'.1 hw
    simp only [Bool.and_eq_true, Bool.or_eq_true, beq_iff_eq] at hb
    have h1 := hall e he hb.1
    rcases hb.2 with h2 | h2
    · rw [h2, hi] at h1
      cases h1
    · cases hoe : ops[e.on]? with
      | none =>
        cases k with
        | zero => simp [waits] at h2
        | succ k => rw [waits, hoe] at h2; cases h2
      | some o' => exact waits_deps hc hi k e.on h2 o' hoe (fun e' he' hb' => hc e.on o' hoe h1 e' he' hb')
theorem waits_not {k g i : Nat} {listed : Array Bool} (hc : Closed md ops listed) (hw : waits md ops k g i = true) (hr : i ∈ Region.ready md ops listed) : g ∉ Region.ready md ops listed := fun hg => by
  obtain ⟨h0, oi, hoi, _⟩ := mem_ready.1 hr
  obtain ⟨_, o, ho, hall⟩ := mem_ready.1 hg
  have hi : listed.getD i false = false := by
    rcases Nat.lt_or_ge i listed.size with h' | h'
    · simp [h'] at h0 ⊢
      exact h0
    · simp [Array.getElem?_eq_none h']
  exact waits_deps hc hi k g hw o ho hall

theorem wpAnyG_first {n i g : Nat} {oi : Oper} {v : Value} (hi : ops[i]? = some oi) (hgi : waits md ops n g i = true) (hsel : ∀ (j : Nat) (o : Oper) cs b, ops[j]? = some o → o.op ≠ .select cs b)
    (hQ : ∀ c a w, Q (.panic c) (a.put oi.dst v) w → Q (.panic c) a w) :
    ∀ (fuel : Nat) (listed : Array Bool) (a : Act) (w : World),
      (∀ j oj, ops[j]? = some oj → j ≠ i → listed.getD j true = false → (∀ e ∈ oj.after, Region.binds md e = true → e.on ≠ i) → oi.apart ops oj = true) →
      i ∈ Region.ready md ops listed → listed.getD g true = false → Closed md ops listed → YieldsIf P ops S oi v a → S w →
      wpAnyG P md ops Q S g fuel (listed.setIfInBounds i true) (a.put oi.dst v) w → wpAnyG P md ops Q S g (fuel + 1) listed a w := by
  intro fuel
  induction fuel with
  | zero =>
    intro listed a w _ hr _ _ hy hS H
    refine ⟨fun h => (by rw [h] at hr; cases hr), fun j hj => ?_⟩
    by_cases hji : j = i
    · subst hji; exact hy.wpOp hi hS ⟨fun _ => hS, H⟩
    · have := ready_mono hj hji
      rw [H.1] at this
      cases this
  | succ fuel ih =>
    intro listed a w hfree hr hlg hcl hy hS H
    refine ⟨fun h => (by rw [h] at hr; cases hr), fun j hj => ?_⟩
    by_cases hji : j = i
    · subst hji; exact hy.wpOp hi hS ⟨fun _ => hS, H⟩
    · have h1 := H.2 j (ready_mono hj hji)
      have hjg : j ≠ g := fun e => waits_not hcl hgi hr (by rw [← e]; exact hj)
      have hig : i ≠ g := fun e => waits_not hcl hgi hr (by rw [← e]; exact hr)
      have hl1 : ((listed.setIfInBounds i true).setIfInBounds j true).getD g true = false := by rw [getD_set_ne true hjg, getD_set_ne true hig]; exact hlg
      have hl2 : (listed.setIfInBounds j true).getD g true = false := by rw [getD_set_ne true hjg]; exact hlg
      obtain ⟨hjun, oj, hoj, hall⟩ := mem_ready.1 hj
      have hnot : ∀ e ∈ oj.after, Region.binds md e = true → e.on ≠ i := fun e he hb heq => by
        have h1 := hall e he hb
        have h0 := (mem_ready.1 hr).1
        rw [heq] at h1
        rcases Nat.lt_or_ge i listed.size with h' | h'
        · simp [h'] at h0 h1; rw [h0] at h1; cases h1
        · simp [Array.getElem?_eq_none h'] at h1
      have h2 := wpOp_putIf hoj (hfree j oj hoj hji hjun hnot) (fun cs b => hsel i oi cs b hi) (fun cs b => hsel j oj cs b hoj) hQ hy h1
      have hfree' : ∀ k ok, ops[k]? = some ok → k ≠ i → (listed.setIfInBounds j true).getD k true = false →
          (∀ e ∈ ok.after, Region.binds md e = true → e.on ≠ i) → oi.apart ops ok = true := fun k ok hk hki hun hno => by
        refine hfree k ok hk hki ?_ hno
        by_cases hjk : j = k
        · subst hjk; exact hjun
        · rw [getD_set_ne true hjk] at hun; exact hun
      refine wpOp_mono (fun a' w' h3 => ⟨fun _ => h3.2.1 hl1, ih (listed.setIfInBounds j true) a' w' hfree' (ready_mono hr (Ne.symm hji)) hl2 (closed_set hcl hj) h3.1 (h3.2.1 hl1) ?_⟩) h2
      rw [Array.setIfInBounds_comm _ _ hji]
      exact h3.2.2

/-- Take number i first: the gate waits for it. -/
theorem wpAnyG_take {i g : Nat} {oi : Oper} {v : Value} {fuel : Nat} {listed : Array Bool} {a : Act} {w : World} (hi : ops[i]? = some oi)
    (hs : Region.noSelect ops = true) (hf : Region.free md ops listed i = true) (hr : (Region.ready md ops listed).contains i = true) (hg : (waits md ops 6 g i && !listed.getD g true && closedB md ops listed) = true)
    (hQ : ∀ c a w, Q (.panic c) (a.put oi.dst v) w → Q (.panic c) a w) (hy : YieldsIf P ops S oi v a) (hS : S w)
    (h : wpAnyG P md ops Q S g fuel (listed.setIfInBounds i true) (a.put oi.dst v) w) : wpAnyG P md ops Q S g (fuel + 1) listed a w := by
  simp only [Bool.and_eq_true, Bool.not_eq_true'] at hg
  exact wpAnyG_first hi hg.1.1 (Region.noSelect_spec hs) hQ fuel listed a w (Region.free_spec hi hf) (by simpa using hr) hg.1.2 (closed_of hg.2) hy hS h

/-- Take number i first, though the gate does not wait for it: it yields in whatever world. -/
theorem wpAnyG_firstFree {i g : Nat} {oi : Oper} {v : Value} (hi : ops[i]? = some oi) (hig : i ≠ g) (hsel : ∀ (j : Nat) (o : Oper) cs b, ops[j]? = some o → o.op ≠ .select cs b)
    (hQ : ∀ c a w, Q (.panic c) (a.put oi.dst v) w → Q (.panic c) a w) :
    ∀ (fuel : Nat) (listed : Array Bool) (a : Act) (w : World),
      (∀ j oj, ops[j]? = some oj → j ≠ i → listed.getD j true = false → (∀ e ∈ oj.after, Region.binds md e = true → e.on ≠ i) → oi.apart ops oj = true) →
      i ∈ Region.ready md ops listed → YieldsIf P ops (fun _ => True) oi v a → (listed.getD g true = false → S w) →
      wpAnyG P md ops Q S g fuel (listed.setIfInBounds i true) (a.put oi.dst v) w → wpAnyG P md ops Q S g (fuel + 1) listed a w := by
  intro fuel
  induction fuel with
  | zero =>
    intro listed a w _ hr hy hS H
    refine ⟨fun h => (by rw [h] at hr; cases hr), fun j hj => ?_⟩
    by_cases hji : j = i
    · subst hji
      exact hy.wpOp hi trivial ⟨fun hl => hS (by rw [getD_set_ne true hig] at hl; exact hl), H⟩
    · have := ready_mono hj hji
      rw [H.1] at this
      cases this
  | succ fuel ih =>
    intro listed a w hfree hr hy hS H
    refine ⟨fun h => (by rw [h] at hr; cases hr), fun j hj => ?_⟩
    by_cases hji : j = i
    · subst hji
      exact hy.wpOp hi trivial ⟨fun hl => hS (by rw [getD_set_ne true hig] at hl; exact hl), H⟩
    · have h1 := H.2 j (ready_mono hj hji)
      obtain ⟨hjun, oj, hoj, hall⟩ := mem_ready.1 hj
      have hnot : ∀ e ∈ oj.after, Region.binds md e = true → e.on ≠ i := fun e he hb heq => by
        have h1 := hall e he hb
        have h0 := (mem_ready.1 hr).1
        rw [heq] at h1
        rcases Nat.lt_or_ge i listed.size with h' | h'
        · simp [h'] at h0 h1; rw [h0] at h1; cases h1
        · simp [Array.getElem?_eq_none h'] at h1
      have h2 := wpOp_putIf hoj (hfree j oj hoj hji hjun hnot) (fun cs b => hsel i oi cs b hi) (fun cs b => hsel j oj cs b hoj) hQ hy h1
      have hfree' : ∀ k ok, ops[k]? = some ok → k ≠ i → (listed.setIfInBounds j true).getD k true = false →
          (∀ e ∈ ok.after, Region.binds md e = true → e.on ≠ i) → oi.apart ops ok = true := fun k ok hk hki hun hno => by
        refine hfree k ok hk hki ?_ hno
        by_cases hjk : j = k
        · subst hjk; exact hjun
        · rw [getD_set_ne true hjk] at hun; exact hun
      have hl1 : (listed.setIfInBounds j true).getD g true = false → ((listed.setIfInBounds i true).setIfInBounds j true).getD g true = false := fun hl => by
        rw [Array.setIfInBounds_comm _ _ (Ne.symm hji), getD_set_ne true hig]
        exact hl
      refine wpOp_mono (fun a' w' h3 => ⟨fun hl => h3.2.1 (hl1 hl), ih (listed.setIfInBounds j true) a' w' hfree' (ready_mono hr (Ne.symm hji)) h3.1 (fun hl => h3.2.1 (hl1 hl)) ?_⟩) h2
      rw [Array.setIfInBounds_comm _ _ hji]
      exact h3.2.2
theorem wpAnyG_takeFree {i g : Nat} {oi : Oper} {v : Value} {fuel : Nat} {listed : Array Bool} {a : Act} {w : World} (hi : ops[i]? = some oi)
    (hs : Region.noSelect ops = true) (hf : Region.free md ops listed i = true) (hr : (Region.ready md ops listed).contains i = true) (hg : (!(i == g)) = true)
    (hQ : ∀ c a w, Q (.panic c) (a.put oi.dst v) w → Q (.panic c) a w) (hy : YieldsIf P ops (fun _ => True) oi v a) (hS : S w)
    (h : wpAnyG P md ops Q S g fuel (listed.setIfInBounds i true) (a.put oi.dst v) w) : wpAnyG P md ops Q S g (fuel + 1) listed a w :=
  wpAnyG_firstFree hi (by simpa using hg) (Region.noSelect_spec hs) hQ fuel listed a w (Region.free_spec hi hf) (by simpa using hr) hy (fun _ => hS) h

/-- Each of the operations rs comes up next; behind it S holds. -/
def AllReadyG (P : Program) (md : Region.Mode) (ops : Array Oper) (Q : Exit → Act → World → Prop) (S : World → Prop) (g fuel : Nat) (listed : Array Bool) (a : Act) (w : World) (rs : List Nat) : Prop :=
  ∀ i ∈ rs, wpOp P ops Q i (fun a' w' => S w' ∧ wpAnyG P md ops Q S g fuel (listed.setIfInBounds i true) a' w') a w
theorem AllReadyG.nil {g fuel : Nat} {listed : Array Bool} {a : Act} {w : World} : AllReadyG P md ops Q S g fuel listed a w [] := fun _ h => by cases h
theorem AllReadyG.cons {g fuel : Nat} {listed : Array Bool} {a : Act} {w : World} {i : Nat} {o : Oper} {rs : List Nat} (ho : ops[i]? = some o)
    (h : ∀ K' : Act → World → Prop, Shut (∀ a w, S w → (S w → wpAnyG P md ops Q S g fuel (listed.setIfInBounds i true) a w) → K' a w) → if Region.wanted o (yielded ops a.tmps) = true then Oper.wp P o a w K' Q else K' (a.put o.dst undef) w)
    (hs : AllReadyG P md ops Q S g fuel listed a w rs) : AllReadyG P md ops Q S g fuel listed a w (i :: rs) := fun j hj => by
  rcases List.mem_cons.1 hj with rfl | hj
  · exact wpOp_step ho (fun K' hK => h K' (fun a w hS hW => hK a w ⟨hS, hW hS⟩))
  · exact hs j hj
theorem wpAnyG_ready {g : Nat} {rs : List Nat} {fuel : Nat} {listed : Array Bool} {a : Act} {w : World} (hr : Region.ready md ops listed = rs) (hne : rs ≠ [])
    (h : AllReadyG P md ops Q S g fuel listed a w rs) : wpAnyG P md ops Q S g (fuel + 1) listed a w :=
  ⟨fun h0 => absurd (hr ▸ h0) hne, fun i hi => wpOp_mono (fun _ _ h' => ⟨fun _ => h'.1, h'.2⟩) (h i (hr ▸ hi))⟩

/-- Behind the gate nothing is held any more. -/
theorem wpAnyG_of_free {g : Nat} : ∀ {fuel : Nat} {listed : Array Bool} {a : Act} {w : World}, listed.getD g true = true → wpAnyH P md ops Q (fun _ => True) fuel listed a w → wpAnyG P md ops Q S g fuel listed a w
  | 0, _, _, _, _, h => h
  | fuel + 1, listed, _, _, hl, h => ⟨h.1, fun i hi => wpOp_mono (fun a' w' h' => by
      have hl' : (listed.setIfInBounds i true).getD g true = true := by
        by_cases hig : i = g
        · subst hig
          rcases Nat.lt_or_ge i listed.size with h' | h' <;> simp [h']
        · rw [getD_set_ne true hig]; exact hl
      exact ⟨fun h0 => (by rw [hl'] at h0; cases h0), wpAnyG_of_free hl' h'.2⟩) (h.2 i hi)⟩
/-- The gate itself, alone ready, and yielding in whatever world. -/
theorem wpAnyG_gate {g : Nat} {og : Oper} {v : Value} {fuel : Nat} {listed : Array Bool} {a : Act} {w : World} (hi : ops[g]? = some og) (hr : Region.ready md ops listed = [g]) (hy : YieldsIf P ops (fun _ => True) og v a)
    (h : wpAnyH P md ops Q (fun _ => True) fuel (listed.setIfInBounds g true) (a.put og.dst v) w) : wpAnyG P md ops Q S g (fuel + 1) listed a w := by
  have hl : (listed.setIfInBounds g true).getD g true = true := by rcases Nat.lt_or_ge g listed.size with h' | h' <;> simp [h']
  refine ⟨fun h0 => (by rw [hr] at h0; cases h0), fun i hi' => ?_⟩
  rw [hr] at hi'
  simp only [List.mem_cons, List.not_mem_nil, or_false] at hi'
  subst hi'
  exact hy.wpOp hi trivial ⟨fun h0 => (by rw [hl] at h0; cases h0), wpAnyG_of_free hl h⟩
/-- The gate itself, alone ready: a store, or whatever. -/
theorem wpAnyG_gateOp {g : Nat} {og : Oper} {fuel : Nat} {listed : Array Bool} {a : Act} {w : World} (ho : ops[g]? = some og) (hr : Region.ready md ops listed = [g])
    (h : ∀ K' : Act → World → Prop, Shut (∀ a w, True → (True → wpAnyH P md ops Q (fun _ => True) fuel (listed.setIfInBounds g true) a w) → K' a w) → if Region.wanted og (yielded ops a.tmps) = true then Oper.wp P og a w K' Q else K' (a.put og.dst undef) w) :
    wpAnyG P md ops Q S g (fuel + 1) listed a w := by
  have hl : (listed.setIfInBounds g true).getD g true = true := by rcases Nat.lt_or_ge g listed.size with h' | h' <;> simp [h']
  refine ⟨fun h0 => (by rw [hr] at h0; cases h0), fun i hi' => ?_⟩
  rw [hr] at hi'
  simp only [List.mem_cons, List.not_mem_nil, or_false] at hi'
  subst hi'
  exact wpOp_step ho (fun K' hK => h K' (fun a w _ hW => hK a w ⟨fun h0 => (by rw [hl] at h0; cases h0), wpAnyG_of_free hl (hW trivial)⟩))
theorem wp_region_gate_drew {id g : Nat} {a : Act} {w : World} (hm : P.follows .mixedOrders = true) (hS : S w.drew)
    (h : S w.drew → wpAnyG P .any ops Q S g ops.size (Array.replicate ops.size false) a w.drew) : (Code.region id ops true).wp P Q a w :=
  wp_region_any hm (wpAny_of_gate _ _ _ _ (h hS))
theorem wpAnyG_mono {g : Nat} {S' : World → Prop} (h : ∀ x, S' x → S x) : ∀ {fuel : Nat} {listed : Array Bool} {a : Act} {w : World}, wpAnyG P md ops Q S' g fuel listed a w → wpAnyG P md ops Q S g fuel listed a w
  | 0, _, _, _, hh => hh
  | _ + 1, _, _, _, hh => ⟨hh.1, fun i hi => wpOp_mono (fun _ _ q => ⟨fun h0 => h _ (q.1 h0), wpAnyG_mono h q.2⟩) (hh.2 i hi)⟩
end

/-- A region by a name for its operations. -/
theorem swap_ops {P : Program} {id : Nat} {ops ops' : Array Oper} {b : Bool} {Q : Exit → Act → World → Prop} {a : Act} {w : World} (h : ops = ops') (hw : (Code.region id ops' b).wp P Q a w) : (Code.region id ops b).wp P Q a w := by
  rw [h]
  exact hw

section
variable {P : Program} {ops : Array Oper} {Q : Exit → Act → World → Prop} {S : World → Prop}
/-- A region in the order of its text, by the operations' numbers. -/
theorem wp_region_seq {id : Nat} {l : List Nat} {a : Act} {w : World} (hl : List.range ops.size = l) (h : wpOps P ops Q l a w) : (Code.region id ops false).wp P Q a w := wp_region (by rw [hl]; exact h)
theorem wpOps_val {i : Nat} {oi : Oper} {v : Value} {rest : List Nat} {a : Act} {w : World} (hi : ops[i]? = some oi) (hy : YieldsIf P ops S oi v a) (hS : S w) (h : wpOps P ops Q rest (a.put oi.dst v) w) : wpOps P ops Q (i :: rest) a w := by
  rw [wpOps_cons]
  exact hy.wpOp hi hS h
theorem wpOps_end {a : Act} {w : World} (h : Q .normal a w) : wpOps P ops Q [] a w := h
end

/-- An append onto a row of the call's own, inside a drawing region. -/
theorem step_appG {P : Program} {ops : Array Oper} {o : Oper} {a : Act} {w : World} {K : Act → World → Prop} {Q : Exit → Act → World → Prop} {E : Prop}
    (hwt : Region.wanted o (yielded ops a.tmps) = true) (s x : Operand) (t tx : TypeId) (hop : o.op = .call { callee := .builtin .append, args := #[s, x], argTypes := #[t, tx] })
    (base : Nat) (e : TypeId) (i : TypeInfo) (z : Value) (size bytes : Nat) (ht : P.underlying t = some (.slice e)) (hi : P.info? e = some i) (hz : i.zero = some z)
    (hsize : i.size = size) (hby : i.bytes = bytes) (hzs : z.cells.size = size)
    (v : Value) (n : Nat) (xs : List Value) (hs : a.eval s = v) (hown : w.ownsRow base e size v n xs)
    (xv : Value) (m : Nat) (news : List Value) (hx : a.eval x = xv) (hsrc : Src P size tx xv m news w)
    (h63 : n + m ≤ maxLen) (hbytes : ∀ old, old < n + m → Builtin.nextslicecap (n + m) old * bytes ≤ 281474976710656) (hbase : base ≤ w.heap.size)
    (h : ∀ v' w', w'.ownsRow base e size v' (n + m) (xs ++ news) → w.grownBy w' v.ownBlock → K (a.put o.dst v') w') :
    if Region.wanted o (yielded ops a.tmps) = true then Oper.wp P o a w K Q else E := by
  rw [if_pos hwt]
  obtain ⟨v', w', hr, h2, h3⟩ := run_append_own_src (P := P) w base t tx o.type e i z size bytes ht hi hz hsize hby hzs v n xs hown xv m news hsrc h63 hbytes hbase
  unfold Oper.wp
  simp [execOp, hop, resolve, invoke, builtin, hs, hx, hr, Result.andThen]
  exact h v' w' h2 h3
end Go.Proofs.Ytlkodgmnhphfcaa

/- Append on a row of one's own, with the place where the new row lies, in a drawing region. -/
namespace Go.Proofs.Ytlkodgmnhphfcaa
open Go Go.RowKit

section
variable {P : Program} (w : World)
/-- As 'step_appG', and where the new row lies. -/
theorem step_appP {ops : Array Oper} {o : Oper} {a : Act} {K : Act → World → Prop} {Q : Exit → Act → World → Prop} {E : Prop}
    (hwt : Region.wanted o (yielded ops a.tmps) = true) (s x : Operand) (t tx : TypeId) (hop : o.op = .call { callee := .builtin .append, args := #[s, x], argTypes := #[t, tx] })
    (base : Nat) (e : TypeId) (i : TypeInfo) (z : Value) (size bytes : Nat) (ht : P.underlying t = some (.slice e)) (hi : P.info? e = some i) (hz : i.zero = some z)
    (hsize : i.size = size) (hby : i.bytes = bytes) (hzs : z.cells.size = size)
    (v : Value) (n : Nat) (xs : List Value) (hs : a.eval s = v) (hown : w.ownsRow base e size v n xs)
    (xv : Value) (m : Nat) (news : List Value) (hx : a.eval x = xv) (hsrc : Src P size tx xv m news w)
    (h63 : n + m ≤ maxLen) (hbytes : ∀ old, old < n + m → Builtin.nextslicecap (n + m) old * bytes ≤ 281474976710656) (hbase : base ≤ w.heap.size)
    (h : ∀ v' w', w'.ownsRow base e size v' (n + m) (xs ++ news) → w.grownBy w' v.ownBlock → (v'.ownBlock = v.ownBlock ∨ v'.ownBlock = some w.heap.size) → K (a.put o.dst v') w') :
    if Region.wanted o (yielded ops a.tmps) = true then Oper.wp P o a w K Q else E := by
  rw [if_pos hwt]
  obtain ⟨v', w', hr, h2, h3, h4⟩ := run_append_own_at (P := P) w base t tx o.type e i z size bytes ht hi hz hsize hby hzs v n xs hown xv m news hsrc h63 hbytes hbase
  unfold Oper.wp
  simp [execOp, hop, resolve, invoke, builtin, hs, hx, hr, Result.andThen]
  exact h v' w' h2 h3 h4
end
end Go.Proofs.Ytlkodgmnhphfcaa

/- Repaint: the law's dirt, near, awake. Laid by repaint/lay.sh. -/
namespace Go.Proofs.Ytlkodgmnhphfcaa
open Go Go.RowKit

theorem owns_new {u : World} {base e m k n c : Nat} {a : Option Addr} {xs : List Value} (h : u.ownsRow base e m (.slice a n c) k xs) {x : Addr} (hx : a = some x) : base ≤ x.block := by
  rcases h.2 with ⟨h1, _⟩ | ⟨g, cap, cur, h1, hb, _⟩
  · cases h1; cases hx
  · cases h1
    cases hx
    exact hb

set_option maxRecDepth 100000 in
set_option maxHeartbeats 1000000 in
theorem nrects_any (a : Option Addr) (n c : Nat) (l : List Rc) (w : World) (h : RdC w a n c l) (hn : n ≤ 1000000) : Calls Try.prog 13 #[.slice a n c] w fun e w' => ∃ a' c', e = .returned (.slice a' n c') ∧ RdC w' a' n c' l ∧ (∀ x, a' = some x → w.heap.size ≤ x.block) ∧ Below w.heap.size w w' := by
  obtain ⟨i0, hi, hz0, hz1, hz2⟩ := info3 infoC
  have HSR := hid (h.src (P := Try.prog) (t := 30) Try.underlying30)
  have HL := hid h.len
  have HOK := hid h.ok
  have HFIN : Hid (∀ v' w', w'.ownsRow w.heap.size 36 4 v' (0 + n) ([] ++ rccs l) → w.grownBy w' (Value.slice none 0 0).ownBlock → ∃ a' c', Ending.returned v' = .returned (.slice a' n c') ∧ RdC w' a' n c' l ∧ (∀ x, a' = some x → w.heap.size ≤ x.block) ∧ Below w.heap.size w w') := fun v' w' o g => by
    rw [Nat.zero_add, List.nil_append] at o
    obtain ⟨a', c', rfl, hr⟩ := rdc_of_owns o HOK.out
    exact ⟨a', c', rfl, hr, fun x hx => owns_new o hx, (Below.refl _ _).grown g (Nat.le_refl _) (fun k hk => by cases hk)⟩
  clear h
  go_enter Try.func13, Try.ntmps13
  go_wp2_with (at_builtin; refine wpList_append_own_src _ rfl (.const (.slice none 0 0)) (.tmp 3) 30 30 rfl w.heap.size 36 i0 (.agg #[.int .i64 0, .int .i64 0, .int .i64 0, .int .i64 0]) 4 32 Try.underlying30 hi hz0 hz1 hz2 rfl (.slice none 0 0) 0 [] rfl (World.ownsRow_nil _ _ _ _) _ _ _ rfl HSR.out (by simp only [maxLen]; omega) (fits32 (by omega)) (Nat.le_refl _) ?_; intro v9 w9 o9 g9; have H9 := hid (HFIN.out _ _ o9 g9); clear o9 g9 HFIN HSR)
  go_wp2
  go_ret
  exact H9.out

theorem max4 {P : Program} (ts : Array TypeId) (t : TypeId) (x y z v : Int) (w : World) : (Builtin.max_ ts t #[.int .i64 x, .int .i64 y, .int .i64 z, .int .i64 v]).run P w = .ok (.int .i64 (max (max (max x y) z) v)) w := by
  have e : ∀ p q : Int, (if p < q then q else p) = max p q := fun p q => by
    rw [Int.max_def]
    split <;> split <;> omega
  simp [Builtin.max_, Builtin.max2, e]
theorem min4 {P : Program} (ts : Array TypeId) (t : TypeId) (x y z v : Int) (w : World) : (Builtin.min_ ts t #[.int .i64 x, .int .i64 y, .int .i64 z, .int .i64 v]).run P w = .ok (.int .i64 (min (min (min x y) z) v)) w := by
  have e : ∀ p q : Int, (if q < p then q else p) = min p q := fun p q => by
    rw [Int.min_def]
    split <;> split <;> omega
  simp [Builtin.min_, Builtin.min2, e]
/-- Views where sums do not go round. -/
def nrv (y : List Int) : Bool := decide (max (max (max (nm5 2 y) (nm5 3 y)) (nm5 4 y)) (nm5 5 y) ≤ 67108864) && decide (-67108864 ≤ min (min (min (nm5 2 y) (nm5 3 y)) (nm5 4 y)) (nm5 5 y))
def nrB (l : List (List Int)) : Bool := l.all nrv && decide (l.length ≤ 10)
theorem nrB_len {l : List (List Int)} (h : nrB l = true) : l.length ≤ 10 := by
  rw [nrB, Bool.and_eq_true] at h
  exact of_decide_eq_true h.2

set_option maxRecDepth 100000 in
set_option maxHeartbeats 4000000 in
theorem qnear_any (a : Option Addr) (n c : Nat) (l : List (List Int)) (w : World) (h : RdM 6 w a n c l) :
    Calls Try.prog 6 #[.slice a n c] w fun e w' => e = .returned (.bool (nrB l)) ∧ Below w.heap.size w w' := by
  have HR := hid h
  have HL := hid h.len
  have hs := h.small
  obtain ⟨R, hR⟩ : ∃ R, nrB l = R := ⟨_, rfl⟩
  have HRR := hid hR
  rw [hR]
  clear h hR
  go_enter Try.func6, Try.ntmps6
  go_wp2
  go_loopw [3] (fun i wr => ∃ j : Nat, i = .int .i64 j ∧ j ≤ n ∧ (l.take j).all nrv = true ∧ Below w.heap.size w wr) (fun i _ => n - (numOf i).toNat)
  case atStart => exact ⟨0, rfl, by omega, rfl, Below.refl _ _⟩
  case round =>
    obtain ⟨j, rfl, hj, hA, hb⟩ := hrel
    have HA := hid hA
    have HB := hid hb
    clear hA hb
    by_cases hgo : j < n
    · have e1 : decide ((j : Int) < n) = true := decide_eq_true (by omega)
      have e2 : (j : Int) < n := by omega
      obtain ⟨b, off, z0, z1, z2, z3, z4, z5, rfl, hb, hy, d0, d1, d2, d3, d4, d5⟩ := (HR.out.on HB.out).el6 hgo
      have HS : Hid ((l.take (j + 1)).all nrv = nrv [z0, z1, z2, z3, z4, z5]) := by
        rw [Hid, List.take_add_one, hy, List.all_append, HA.out, Bool.true_and, Option.toList_some, List.all_cons, List.all_nil, Bool.and_true]
      have HM : Hid (nrv [z0, z1, z2, z3, z4, z5] = false → R = false) := fun h => by
        rw [← HRR.out, nrB, Bool.and_eq_false_iff]
        refine .inl ?_
        rw [List.all_eq_false]
        exact ⟨_, List.mem_of_getElem? hy, by rw [h]; decide⟩
      have HN : Hid (nrv [z0, z1, z2, z3, z4, z5] = (decide (max (max (max z2 z3) z4) z5 ≤ 67108864) && decide (-67108864 ≤ min (min (min z2 z3) z4) z5))) := rfl
      have hA := bel_new wr (.cells #[.int .i64 z0, .int .i64 z1, .int .i64 z2, .int .i64 z3, .int .i64 z4, .int .i64 z5] 40)
      have HB2 := hid (Below.on HB.out hA)
      have m1 := max4 (P := Try.prog) #[3, 3, 3, 3] 3 z2 z3 z4 z5
      have m2 := min4 (P := Try.prog) #[3, 3, 3, 3] 3 z2 z3 z4 z5
      obtain ⟨mx, hmx⟩ : ∃ m, max (max (max z2 z3) z4) z5 = m := ⟨_, rfl⟩
      obtain ⟨mn, hmn⟩ : ∃ m, min (min (min z2 z3) z4) z5 = m := ⟨_, rfl⟩
      rw [hmx] at m1 HN
      rw [hmn] at m2 HN
      clear hy hA hb HB hmx hmn
      by_cases h1 : 67108864 < mx
      · have t1 : decide (67108864 < mx) = true := decide_eq_true h1
        have HF := hid (HM.out (by rw [HN.out, decide_eq_false (by omega), Bool.false_and]))
        clear HM HS HN
        go_wp2
        go_ret
        exact ⟨by rw [HF.out]; rfl, HB2.out⟩
      · have t1 : decide (67108864 < mx) = false := decide_eq_false h1
        by_cases h2 : mn < -67108864
        · have t2 : decide (mn < -67108864) = true := decide_eq_true h2
          have HF := hid (HM.out (by rw [HN.out, decide_eq_false (p := -67108864 ≤ mn) (by omega), Bool.and_false]))
          clear HM HS HN
          go_wp2
          go_ret
          exact ⟨by rw [HF.out]; rfl, HB2.out⟩
        · have t2 : decide (mn < -67108864) = false := decide_eq_false h2
          have HT : Hid ((l.take (j + 1)).all nrv = true) := by
            rw [Hid, HS.out, HN.out, decide_eq_true (by omega), decide_eq_true (by omega)]
            rfl
          clear HM HS HN
          go_wp2
          go_roundw
          case rel => exact ⟨j + 1, by go_num, by omega, HT.out, HB2.out⟩
          case measure => simp [numOf]; omega
    · have e1 : decide ((j : Int) < n) = false := decide_eq_false (by omega)
      have HF : Hid (R = decide ((n : Int) ≤ 10)) := by
        have h1 := HA.out
        rw [List.take_of_length_le (by rw [HL.out]; omega)] at h1
        rw [Hid, ← HRR.out, nrB, h1, Bool.true_and, HL.out, Bool.eq_iff_iff, decide_eq_true_eq, decide_eq_true_eq]
        omega
      go_wp2
      go_ret
      exact ⟨by rw [HF.out]; rfl, HB.out⟩

/-- Whether there is not too much. -/
def diOk (ds : List Dv) : Bool := decide (ds.length ≤ 8) && ds.all fun d => decide (d.n ≤ 8)
theorem diOk_len {ds : List Dv} (h : diOk ds = true) : ds.length ≤ 8 := by
  rw [diOk, Bool.and_eq_true] at h
  exact of_decide_eq_true h.1
/-- What dirt answers. -/
def DiR (w : World) (ds : List Dv) (e : Ending) (w' : World) : Prop := ∃ v, e = .returned (.tuple #[v, .bool (diOk ds)]) ∧ Below w.heap.size w w' ∧ (diOk ds = true → ∃ a n c hs, v = .slice a n c ∧ RdD w' a n c hs ∧ hs.map ddl = ds.map ddl ∧ (∀ d ∈ hs, d.n ≤ 8) ∧ n ≤ 8)

theorem infoDt : (Try.prog.info? 38).map (fun i => (i.zero, i.size, i.bytes)) = some (some (.agg #[.int .i64 0, .slice none 0 0]), 2, 32) := by kernel_rfl
set_option maxRecDepth 100000 in
set_option maxHeartbeats 4000000 in
theorem qdirt_any (a : Option Addr) (n c : Nat) (ds : List Dv) (w : World) (hr : RdD w a n c ds) :
    Calls Try.prog 5 #[.slice a n c] w (DiR w ds) := by
  obtain ⟨i0, hi, hi0, hi1, hi2⟩ := info3 infoDt
  have hs := hr.small
  have HL := hid hr.len
  have HR := hid hr
  obtain ⟨R, hR⟩ : ∃ R, R = DiR w ds := ⟨_, rfl⟩
  have HNO : Hid (∀ x, diOk ds = false → Below w.heap.size w x → R (.returned (.tuple #[.slice none 0 0, .bool false])) x) := fun x h hb => by
    rw [hR]
    exact ⟨_, by rw [h], hb, fun h2 => by rw [h] at h2; cases h2⟩
  have HYES : Hid (∀ x a c hl, n ≤ 8 → (∀ d ∈ ds, d.n ≤ 8) → OwD 38 w x (.slice a n c) hl → hl.map ddl = ds.map ddl → (∀ d ∈ hl, d.n ≤ 8) → R (.returned (.tuple #[.slice a n c, .bool true])) x) := fun x a c hl h1 h2 hO hE h3 => by
    have hok : diOk ds = true := by
      rw [diOk, Bool.and_eq_true, decide_eq_true_eq, List.all_eq_true]
      exact ⟨by rw [HL.out]; exact h1, fun d hd => decide_eq_true (h2 d hd)⟩
    obtain ⟨a', c', e1, hrd⟩ := hO.rd
    have hll : hl.length = n := by
      have := congrArg List.length hE
      rw [List.length_map, List.length_map, HL.out] at this
      exact this
    rw [hR]
    refine ⟨_, by rw [hok], hO.bel, fun _ => ⟨a', hl.length, c', hl, e1, hrd, hE, h3, by omega⟩⟩
  rw [← hR]
  clear hr hR
  go_enter Try.func5, Try.ntmps5
  go_wp2
  go_loopw [4, 5] (fun v i wr => ∃ (j : Nat) (hl : List Dv), i = .int .i64 j ∧ j ≤ n ∧ hl.length = j ∧ OwD 38 w wr v hl ∧ hl.map ddl = (ds.take j).map ddl ∧ (∀ d ∈ hl, d.n ≤ 8) ∧ (∀ d ∈ ds.take j, d.n ≤ 8) ∧ (0 < j → n ≤ 8)) (fun _ i _ => n - (numOf i).toNat)
  case atStart => exact ⟨0, [], rfl, by omega, rfl, OwD.nil _ _, rfl, by simp, by simp, by omega⟩
  case round =>
    obtain ⟨j, hl, rfl, hj, hlj, hO, hE, hB, hB2, hj8⟩ := hrel
    have HLJ := hid hlj
    have HO := hid hO
    have HE := hid hE
    have HB := hid hB
    have HB2 := hid hB2
    obtain ⟨a1, c1, rfl, _⟩ := hO.rd
    rw [HLJ.out] at HO ⊢
    clear hO hE hB hB2 hlj
    by_cases hgo : j < n
    · have e1 : decide ((j : Int) < n) = true := decide_eq_true (by omega)
      have e2 : (j : Int) < n := by omega
      by_cases h8 : 8 < n
      · have e3 : decide ((8 : Int) < n) = true := decide_eq_true (by omega)
        have HF := hid (HNO.out wr (by rw [diOk, decide_eq_false (by rw [HL.out]; omega), Bool.false_and]) HO.out.bel)
        clear HNO HYES
        go_wp2
        exact HF.out
      have e3 : decide ((8 : Int) < n) = false := decide_eq_false (by omega)
      obtain ⟨b, off, g, rfl, hb, hg, hok, d0, d1⟩ := HR.out.el hgo
      have y0 := (HO.out.bel.cell hb).trans d0
      have y1 := (HO.out.bel.cell hb).trans d1
      have HG := hid hg
      have HOK := hid hok
      by_cases h4 : 8 < g.n
      · have e4 : decide ((8 : Int) < g.n) = true := decide_eq_true (by omega)
        have HF := hid (HNO.out wr (by
          rw [diOk, Bool.and_eq_false_iff]
          refine .inr ?_
          rw [List.all_eq_false]
          exact ⟨g, List.mem_of_getElem? HG.out, by simp; omega⟩) HO.out.bel)
        clear HNO HYES hg hok
        go_wp2
        exact HF.out
      have e4 : decide ((8 : Int) < g.n) = false := decide_eq_false (by omega)
      obtain ⟨s, ga, gn, gc, gl⟩ := g
      dsimp only at d0 d1 y0 y1 h4 e4 HOK
      clear HNO HYES hg hok
      go_wp2
      have HW : Hid (RowKit.Below wr.heap.size wr wr.drew) := (Below.refl _ _).drew
      refine wp_region_held_drew (S := fun x => RowKit.Below w.heap.size w x) (by kernel_rfl) ?hh (fun hHeld => ?_)
      case hh => exact (HO.out.bel.drew)
      refine wpAnyH_take (i := 0) (v := ?_) rfl (by kernel_rfl) (by kernel_rfl) (by kernel_rfl) (fun _ _ _ h => h) (Or.inl ⟨by kernel_rfl, ?hy0⟩) (by assumption) ?_
      case hy0 => (intro w hSw; (try dsimp only at hSw); have q0 := (hSw.cell hb).trans d0; have q1 := (hSw.cell hb).trans d1; go_simp; try with_reducible rfl)
      try simp only [Act.put, List.getElem_toArray, List.getElem_cons_zero, List.setIfInBounds_toArray, List.set_cons_zero, List.set_cons_succ]
      refine wpAnyH_take (i := 1) (v := ?_) rfl (by kernel_rfl) (by kernel_rfl) (by kernel_rfl) (fun _ _ _ h => h) (Or.inl ⟨by kernel_rfl, ?hy1⟩) (by assumption) ?_
      case hy1 => (intro w hSw; (try dsimp only at hSw); have q0 := (hSw.cell hb).trans d0; have q1 := (hSw.cell hb).trans d1; go_simp; try with_reducible rfl)
      try simp only [Act.put, List.getElem_toArray, List.getElem_cons_zero, List.getElem_cons_succ, List.setIfInBounds_toArray, List.set_cons_zero, List.set_cons_succ]
      refine wpAnyH_take (i := 2) (v := ?_) rfl (by kernel_rfl) (by kernel_rfl) (by kernel_rfl) (fun _ _ _ h => h) (Or.inl ⟨by kernel_rfl, ?hy2⟩) (by assumption) ?_
      case hy2 => (intro w hSw; (try dsimp only at hSw); have q0 := (hSw.cell hb).trans d0; have q1 := (hSw.cell hb).trans d1; go_simp; try with_reducible rfl)
      try simp only [Act.put, List.getElem_toArray, List.getElem_cons_zero, List.getElem_cons_succ, List.setIfInBounds_toArray, List.set_cons_zero, List.set_cons_succ]
      refine wpAnyH_take (i := 3) (v := ?_) rfl (by kernel_rfl) (by kernel_rfl) (by kernel_rfl) (fun _ _ _ h => h) (Or.inl ⟨by kernel_rfl, ?hy3⟩) (by assumption) ?_
      case hy3 => (intro w hSw; (try dsimp only at hSw); have q0 := (hSw.cell hb).trans d0; have q1 := (hSw.cell hb).trans d1; go_simp; try with_reducible rfl)
      try simp only [Act.put, List.getElem_toArray, List.getElem_cons_zero, List.getElem_cons_succ, List.setIfInBounds_toArray, List.set_cons_zero, List.set_cons_succ]
      refine wpAnyH_take (i := 4) (v := ?_) rfl (by kernel_rfl) (by kernel_rfl) (by kernel_rfl) (fun _ _ _ h => h) (Or.inl ⟨by kernel_rfl, ?hy4⟩) (by assumption) ?_
      case hy4 => (intro w hSw; (try dsimp only at hSw); have q0 := (hSw.cell hb).trans d0; have q1 := (hSw.cell hb).trans d1; go_simp; try with_reducible rfl)
      try simp only [Act.put, List.getElem_toArray, List.getElem_cons_zero, List.getElem_cons_succ, List.setIfInBounds_toArray, List.set_cons_zero, List.set_cons_succ]
      refine wpAnyH_take (i := 5) (v := ?_) rfl (by kernel_rfl) (by kernel_rfl) (by kernel_rfl) (fun _ _ _ h => h) (Or.inl ⟨by kernel_rfl, ?hy5⟩) (by assumption) ?_
      case hy5 => (intro w hSw; (try dsimp only at hSw); have q0 := (hSw.cell hb).trans d0; have q1 := (hSw.cell hb).trans d1; go_simp; try with_reducible rfl)
      try simp only [Act.put, List.getElem_toArray, List.getElem_cons_zero, List.getElem_cons_succ, List.setIfInBounds_toArray, List.set_cons_zero, List.set_cons_succ]
      refine wpAnyH_take (i := 6) (v := ?_) rfl (by kernel_rfl) (by kernel_rfl) (by kernel_rfl) (fun _ _ _ h => h) (Or.inl ⟨by kernel_rfl, ?hy6⟩) (by assumption) ?_
      case hy6 => (intro w hSw; (try dsimp only at hSw); have q0 := (hSw.cell hb).trans d0; have q1 := (hSw.cell hb).trans d1; go_simp; try with_reducible rfl)
      try simp only [Act.put, List.getElem_toArray, List.getElem_cons_zero, List.getElem_cons_succ, List.setIfInBounds_toArray, List.set_cons_zero, List.set_cons_succ]
      refine wpAnyH_take (i := 7) (v := ?_) rfl (by kernel_rfl) (by kernel_rfl) (by kernel_rfl) (fun _ _ _ h => h) (Or.inl ⟨by kernel_rfl, ?hy7⟩) (by assumption) ?_
      case hy7 => (intro w hSw; (try dsimp only at hSw); have q0 := (hSw.cell hb).trans d0; have q1 := (hSw.cell hb).trans d1; go_simp; try with_reducible rfl)
      try simp only [Act.put, List.getElem_toArray, List.getElem_cons_zero, List.getElem_cons_succ, List.setIfInBounds_toArray, List.set_cons_zero, List.set_cons_succ]
      refine wpAnyH_take (i := 8) (v := ?_) rfl (by kernel_rfl) (by kernel_rfl) (by kernel_rfl) (fun _ _ _ h => h) (Or.inl ⟨by kernel_rfl, ?hy8⟩) (by assumption) ?_
      case hy8 => (intro w hSw; (try dsimp only at hSw); have q0 := (hSw.cell hb).trans d0; have q1 := (hSw.cell hb).trans d1; go_simp; try with_reducible rfl)
      try simp only [Act.put, List.getElem_toArray, List.getElem_cons_zero, List.getElem_cons_succ, List.setIfInBounds_toArray, List.set_cons_zero, List.set_cons_succ]
      refine wpAnyH_take (i := 9) (v := ?_) rfl (by kernel_rfl) (by kernel_rfl) (by kernel_rfl) (fun _ _ _ h => h) (Or.inl ⟨by kernel_rfl, ?hy9⟩) (by assumption) ?_
      case hy9 => (intro w hSw; (try dsimp only at hSw); have q0 := (hSw.cell hb).trans d0; have q1 := (hSw.cell hb).trans d1; go_simp; try with_reducible rfl)
      try simp only [Act.put, List.getElem_toArray, List.getElem_cons_zero, List.getElem_cons_succ, List.setIfInBounds_toArray, List.set_cons_zero, List.set_cons_succ]
      refine wpAnyH_take (i := 10) (v := ?_) rfl (by kernel_rfl) (by kernel_rfl) (by kernel_rfl) (fun _ _ _ h => h) (Or.inl ⟨by kernel_rfl, ?hy10⟩) (by assumption) ?_
      case hy10 => (intro w hSw; (try dsimp only at hSw); have q0 := (hSw.cell hb).trans d0; have q1 := (hSw.cell hb).trans d1; go_simp; try with_reducible rfl)
      try simp only [Act.put, List.getElem_toArray, List.getElem_cons_zero, List.getElem_cons_succ, List.setIfInBounds_toArray, List.set_cons_zero, List.set_cons_succ]
      refine wpAnyH_ready (rs := [11]) (by kernel_rfl) (by simp) ?_
      refine AllReadyH.cons rfl (fun K hK => ?_) AllReadyH.nil
      go_simp
      go_wp2_with fail
      refine (nrects_any ga gn gc gl _ (HOK.out.rc.on hHeld) (by omega)).mono ?_
      rintro e W21 ⟨a5, c5, rfl, hR5, hn5, hb5⟩
      refine hK.out _ _ (Below.on hHeld hb5) (fun _ => ?_)
      have HB0 := hid (Below.on HW.out hb5)
      have HR5 := hid hR5
      have HN5 : Hid (∀ y, a5 = some y → wr.heap.size ≤ y.block) := fun y hy => by {have h1 := hn5 y hy; have h2 := HW.out.size; omega}
      have hH5 := Below.on hHeld hb5
      clear hK K hHeld hb5 hR5 hn5
      have hHeld := hH5
      clear hH5
      refine wpAnyH_take (i := 12) (v := ?_) rfl (by kernel_rfl) (by kernel_rfl) (by kernel_rfl) (fun _ _ _ h => h) (Or.inl ⟨by kernel_rfl, ?hy12⟩) (by assumption) ?_
      case hy12 => (intro w hSw; (try dsimp only at hSw); have q0 := (hSw.cell hb).trans d0; have q1 := (hSw.cell hb).trans d1; go_simp; try with_reducible rfl)
      try simp only [Act.put, List.getElem_toArray, List.getElem_cons_zero, List.getElem_cons_succ, List.setIfInBounds_toArray, List.set_cons_zero, List.set_cons_succ]
      refine wpAnyH_ready (rs := [13]) (by kernel_rfl) (by simp) ?_
      refine AllReadyH.cons rfl (fun K hK => ?_) AllReadyH.nil
      have hb1 := bel_new W21 (.cells #[.int .i64 s, .slice a5 gn c5] 38)
      have hH2 := Below.on hHeld hb1
      have HS5 := hid (src_dv (P := Try.prog) (T := 38) Try.underlying24 W21 ⟨s, a5, gn, c5, gl⟩)
      have HO5 := hid ((HO.out.on HB0.out).on hb1)
      have HX5 : Hid (DOk (W21.alloc (.cells #[.int .i64 s, .slice a5 gn c5] 38)) ⟨s, a5, gn, c5, gl⟩) := ⟨HOK.out.ks, HR5.out.on hb1⟩
      simp only [dvv] at HS5
      clear hb1
      go_simp
      refine hK.out _ _ hH2 (fun _ => ?_)
      clear hK K hHeld
      have hHeld := hH2
      clear hH2
      refine wpAnyH_ready (rs := [14]) (by kernel_rfl) (by simp) ?_
      refine AllReadyH.cons rfl (fun K hK => ?_) AllReadyH.nil
      refine step_appP _ (by kernel_rfl) (.tmp 24) (.tmp 37) 24 24 rfl w.heap.size 38 i0 (.agg #[.int .i64 0, .slice none 0 0]) 2 32 Try.underlying24 hi hi0 hi1 hi2 rfl _ _ _ (by simp [Act.eval]) HO5.out.own _ _ _ (by simp [Act.eval]) HS5.out (by simp only [maxLen]; have := HLJ.out; omega) (fits32 (by have := HLJ.out; omega)) HO5.out.bel.size ?_
      intro v6 W24 o6 g6 p6
      have HO6 := hid (HO5.out.more HX5.out (fun hn y hy e => by {have h1 := HN5.out y hy; have h2 := (HO.out.own.lt _ e).2; omega}) o6 g6 p6)
      clear o6 g6 p6 HO5 HS5 HX5 HB0 HR5 HN5
      refine hK.out _ _ HO6.out.bel (fun _ => ?_)
      clear hK K
      refine wpAnyH_take (i := 15) (v := ?_) rfl (by kernel_rfl) (by kernel_rfl) (by kernel_rfl) (fun _ _ _ h => h) (Or.inl ⟨by kernel_rfl, ?hy15⟩) (by assumption) ?_
      case hy15 => (intro w hSw; (try dsimp only at hSw); have q0 := (hSw.cell hb).trans d0; have q1 := (hSw.cell hb).trans d1; go_simp; try with_reducible rfl)
      try simp only [Act.put, List.getElem_toArray, List.getElem_cons_zero, List.getElem_cons_succ, List.setIfInBounds_toArray, List.set_cons_zero, List.set_cons_succ]
      refine wpAnyH_done (by kernel_rfl) ?_ _
      go_wp2
      refine ⟨⟨j + 1, hl ++ [⟨s, a5, gn, c5, gl⟩], by go_num, by omega, by rw [List.length_append, HLJ.out]; rfl, HO6.out, ?_, ?_, ?_, fun _ => by omega⟩, by simp [numOf]; omega⟩
      · rw [map_snoc (f := ddl) HG.out, List.map_append, HE.out]
        rfl
      · intro d hd
        rcases List.mem_append.1 hd with hd | hd
        · exact HB.out d hd
        · rw [List.mem_singleton.1 hd]
          show gn ≤ 8
          omega
      · intro d hd
        rw [List.take_add_one, HG.out] at hd
        rcases List.mem_append.1 hd with hd | hd
        · exact HB2.out d hd
        · rw [List.mem_singleton.1 hd]
          show gn ≤ 8
          omega
    · have e1 : decide ((j : Int) < n) = false := decide_eq_false (by omega)
      obtain rfl : j = n := by omega
      have htk : ds.take j = ds := List.take_of_length_le (by rw [HL.out]; exact Nat.le_refl _)
      have h8 : j ≤ 8 := by
        rcases Nat.eq_zero_or_pos j with h0 | h0
        · omega
        · exact hj8 h0
      have HF := hid (HYES.out wr a1 c1 hl h8 (by rw [← htk]; exact HB2.out) HO.out (by rw [HE.out, htk]) HB.out)
      clear HNO HYES htk
      go_wp2
      exact HF.out

theorem ex24_one : dfl (chl [] [[1, 0, 0, 0, 2, 2]] []) = [⟨0, 0, 2, 2⟩] := dput_nil (r := ⟨0, 0, 2, 2⟩) ⟨by decide, by decide, by decide, by decide, by decide, by decide⟩
set_option maxRecDepth 100000 in
set_option maxHeartbeats 1000000 in
theorem qawake24_any (w : World) : Calls Try.prog 7 #[] w fun e w' => e = .returned (.bool true) ∧ Below w.heap.size w w' := by
  have hg := eqlR_guard
  have q := eqlR ⟨0, 0, 2, 2⟩ ⟨0, 0, 2, 2⟩
  rw [rceq_same] at q
  dsimp only at q
  have okv : ∀ y ∈ ([[1, 0, 0, 0, 2, 2]] : List (List Int)), (vrc y).Ok := fun y hy => by
    rw [List.mem_singleton.1 hy]
    exact ⟨by decide, by decide, by decide, by decide⟩
  have hL : RdM 6 (w.alloc (.cells #[.int .i64 1, .int .i64 0, .int .i64 0, .int .i64 0, .int .i64 2, .int .i64 2] 40)) (some ⟨w.heap.size, 0, none⟩) 1 1 [[1, 0, 0, 0, 2, 2]] := by
    refine ⟨rfl, Nat.le_refl _, by decide, (fun h => by cases h), fun _ => ⟨w.heap.size, 0, rfl, by simp, fun j y hj k z hz => ?_⟩, fun y hy => by rw [List.mem_singleton.1 hy]; rfl⟩
    match j, hj with
    | 0, hj =>
      cases hj
      rw [Nat.zero_mul, Nat.zero_add, Nat.zero_add, (bk_new w #[.int .i64 1, .int .i64 0, .int .i64 0, .int .i64 0, .int .i64 2, .int .i64 2] 40).cell]
      match k, hz with
      | 0, hz => cases hz; rfl
      | 1, hz => cases hz; rfl
      | 2, hz => cases hz; rfl
      | 3, hz => cases hz; rfl
      | 4, hz => cases hz; rfl
      | 5, hz => cases hz; rfl
  have HB := hid (bel_new w (.cells #[.int .i64 1, .int .i64 0, .int .i64 0, .int .i64 0, .int .i64 2, .int .i64 2] 40))
  have C1 := hid (qchanged_any none 0 0 [] (some ⟨w.heap.size, 0, none⟩) 1 1 [[1, 0, 0, 0, 2, 2]] none 0 0 [] _ (RdM.nil 6 _) hL (RdD.nil _) (by simp) okv (by omega) (by omega) (by omega) (by simp))
  rw [show (([] : List Dv).map ddl) = [] from rfl, ex24_one] at C1
  have C2 := hid (fun u hu => qchanged_any (some ⟨w.heap.size, 0, none⟩) 1 1 [[1, 0, 0, 0, 2, 2]] (some ⟨w.heap.size, 0, none⟩) 1 1 [[1, 0, 0, 0, 2, 2]] none 0 0 [] u hu hu (RdD.nil _) okv okv (by omega) (by omega) (by omega) (by simp))
  rw [show dfl (chl [[1, 0, 0, 0, 2, 2]] [[1, 0, 0, 0, 2, 2]] (([] : List Dv).map ddl)) = [] from by rw [ch_same (by simp)]; rfl] at C2
  have HLL := hid hL
  clear hL okv
  go_enter Try.func7, Try.ntmps7
  go_wp2_with fail
  refine C1.out.mono ?_
  rintro e w1 ⟨a1, c1, rfl, h1, hb1⟩
  have HB1 := hid (Below.on HB.out hb1)
  have HL1 := hid (HLL.out.on hb1)
  have H1 := hid h1
  clear h1 hb1 C1 HB HLL
  go_wp2_with fail
  refine (C2.out _ HL1.out).mono ?_
  rintro e w2 ⟨a2, c2, rfl, h2, hb2⟩
  have HB2 := hid (Below.on HB1.out hb2)
  obtain ⟨b, off, rfl, _, hel⟩ := (H1.out.on hb2).pl (by decide)
  obtain ⟨_, d0, d1, d2, d3⟩ := hel 0 ⟨0, 0, 2, 2⟩ rfl
  simp only [Nat.zero_mul, Nat.add_zero] at d0 d1 d2 d3
  clear hb2 h2 H1 HL1 C2 hel HB1
  go_wp2
  go_ret
  exact ⟨rfl, HB2.out⟩
end Go.Proofs.Ytlkodgmnhphfcaa

/- A slice of the document's damaged surfaces, as it comes in: opened. -/
namespace Go.Proofs.Ytlkodgmnhphfcaa
open Go Go.ChangeShapes Go.WideShapes Go.ChangeAt Go.RowKit Go.Deep

theorem i64_of24 {n : Int} (h : (Lit.int .i64 n).wf = true) : I64 n := by
  unfold I64
  simpa [Lit.wf, IntKind.min, IntKind.max, IntKind.signed, IntKind.bits] using h

theorem cellsDt : Try.prog.cellsOf 43 = 2 := by kernel_rfl

variable {H : Type} {enc : TypeId × Value → H} {W : World} {d : DataW H} {p : List MemPlace}

set_option maxRecDepth 100000 in
theorem open_rcs {k : Nat} {c : Value} {x : DataW H × List MemPlace} (h : DataW.trod enc Try.prog W 0 (fun _ => true) true k 30 [c] = some x) : ∃ a m c' l, c = .slice a m c' ∧ RdC W a m c' l := by
  rcases open_slice Try.underlying30 h with ⟨hcs, _⟩ | ⟨a, len, cap, mm, k', D, Pl, hcs, _⟩
  · simp only [List.cons.injEq, and_true] at hcs
    subst hcs
    exact ⟨none, 0, 0, [], rfl, RdC.nil W⟩
  · simp only [List.cons.injEq, and_true] at hcs
    subst hcs
    obtain ⟨l, hl⟩ := open_structs (m := 4) Try.underlying30 Try.underlying36 rfl (by kernel_rfl) (by kernel_rfl) (W := W) (enc := enc) ⟨k, h⟩
    exact ⟨_, _, _, _, rfl, rdc_of_rdn hl⟩

set_option maxRecDepth 100000 in
theorem open_dt {n : Nat} {cs : List Value} {x : DataW H × List MemPlace} (h : DataW.trod enc Try.prog W 0 (fun _ => true) true n 43 cs = some x) : ∃ g : Dv, cs = (dvv g).toList ∧ DOk W g := by
  obtain ⟨xs, k, _, _, hl, hlen, hx⟩ := DataW.trod_struct Try.underlying43 h
  rw [cellsDt] at hl
  match cs, hl, xs, hlen with
  | [c0, c1], _, [x0, x1], _ =>
    have h0 : DataW.trod enc Try.prog W 0 (fun _ => true) true k 3 (([c0, c1].drop 0).take (Try.prog.cellsOf 3)) = some x0 := hx 0 _ rfl
    have h1 : DataW.trod enc Try.prog W 0 (fun _ => true) true k 30 (([c0, c1].drop 1).take (Try.prog.cellsOf 30)) = some x1 := hx 1 _ rfl
    have k3 : Try.prog.cellsOf 3 = 1 := by kernel_rfl
    have k6 : Try.prog.cellsOf 30 = 1 := by kernel_rfl
    simp only [k3, k6, List.drop_zero, List.drop_succ_cons, List.take_succ_cons, List.take_zero] at h0 h1
    obtain ⟨a0, e0, _, w0⟩ := DataW.trod_int Try.underlying3 h0
    simp only [List.cons.injEq, and_true] at e0
    subst e0
    obtain ⟨a, m, c, l, rfl, hp⟩ := open_rcs h1
    exact ⟨⟨a0, a, m, c, l⟩, rfl, ⟨i64_of24 w0, hp⟩⟩

set_option maxRecDepth 100000 in
theorem open_dirts {a : Option Addr} {n c : Nat} (h : DataW.Trod enc Try.prog W 0 (fun _ => true) true 23 (.slice a n c) d p) : ∃ ds, RdD W a n c ds := by
  obtain ⟨fuel, hf⟩ := h
  rcases open_slice Try.underlying23 hf with ⟨hcs, _⟩ | ⟨a, len, cap, mm, k, D, Pl, hcs, hb, hl, hm, hmm, _, hx⟩
  · simp [Value.cells] at hcs
    obtain ⟨rfl, rfl, rfl⟩ := hcs
    exact ⟨[], RdD.nil W⟩
  · simp [Value.cells] at hcs
    obtain ⟨rfl, rfl, rfl⟩ := hcs
    simp only [if_true] at hmm
    subst hmm
    rw [cellsDt] at hx
    have each : ∀ i, i < n → ∃ g : Dv, DOk W g ∧ ∀ q v, (dvv g)[q]? = some v → W.cell? (a.add (i * 2 + q)) = some v := fun i hi => by
      obtain ⟨cs', h1, h2⟩ := hx i (by omega)
      obtain ⟨g, rfl, hg⟩ := open_dt h2
      refine ⟨g, hg, fun q v hq => ?_⟩
      obtain ⟨_, _, hcc⟩ := World.cells?_some h1
      have hlt : q < 2 := by
        have := (Array.getElem?_eq_some_iff.1 hq).1
        simpa [dvv] using this
      have := hcc q hlt
      rw [Array.getElem?_toList, hq, add_add] at this
      exact this
    haveI : Inhabited Dv := ⟨dzz⟩
    obtain ⟨f, hfn⟩ := choose_lt (α := Dv) each
    by_cases hn : n = 0
    · subst hn
      exact ⟨[], rfl, hl, hm, (fun h => by cases h), fun h => absurd h (by omega), by simp⟩
    obtain ⟨b, off, spot⟩ := a
    have hspot : spot = none := by
      have z0 := (hfn 0 (by omega)).2 0 _ rfl
      simpa [Addr.add] using World.cell?_spot z0
    subst hspot
    have q0 := (hfn 0 (by omega)).2 0 _ rfl
    refine ⟨(List.range n).map f, by simp, hl, hm, (fun h => by cases h), fun _ => ⟨b, off, rfl, ?_, fun j g hj i v hv => ?_⟩, fun g hg => ?_⟩
    · rw [add_plain] at q0
      exact World.block_lt_of_cell? W _ q0
    · rw [List.getElem?_map] at hj
      obtain ⟨i', hi', rfl⟩ := Option.map_eq_some_iff.1 hj
      have hlt : j < n := by
        rcases Nat.lt_or_ge j n with h' | h'
        · exact h'
        · rw [List.getElem?_eq_none (by simpa using h')] at hi'; cases hi'
      rw [List.getElem?_range hlt] at hi'
      cases hi'
      rw [← add_plain]
      exact (hfn j hlt).2 i v hv
    · obtain ⟨i, hi, rfl⟩ := List.mem_map.1 hg
      exact (hfn i (List.mem_range.1 hi)).1
end Go.Proofs.Ytlkodgmnhphfcaa
