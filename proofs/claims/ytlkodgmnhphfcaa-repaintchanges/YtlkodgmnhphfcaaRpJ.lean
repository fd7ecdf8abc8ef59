/- Repaint: the contract of the document's Changed. Laid by repaint/lay.sh. -/
import Derived.Test.YtlkodgmnhphfcaaRpI
import Derived.Test.YtlkodgmnhphfcaaRpH
namespace Go.Proofs.Ytlkodgmnhphfcaa
open Go Go.RowKit

theorem chp_same (y : List Int) (D : List (Int × List Rc)) : chp (some y) (some y) D = qdm y D := by
  rw [chp, if_pos rfl]
  rfl
theorem chp_diff {o v : Option (List Int)} (h : o ≠ v) (D : List (Int × List Rc)) : chp o v D = (o.toList ++ v.toList).map vrc := by
  cases o with
  | none => cases v <;> rfl
  | some a =>
    cases v with
    | none => rfl
    | some b =>
      rw [chp, if_neg (fun e => h (by rw [e]))]
      rfl
theorem rlit (a : Option Addr) (n c : Nat) : (Value.slice a n c) = .slice a n c := rfl

set_option maxRecDepth 100000 in
set_option maxHeartbeats 8000000 in
theorem qrchanged_any (a : Option Addr) (n c : Nat) (o : List (List Int)) (a' : Option Addr) (n' c' : Nat) (v : List (List Int)) (a2 : Option Addr) (n2 c2 : Nat) (ds : List Dv) (w : World) (h : RdM 6 w a n c o) (h' : RdM 6 w a' n' c' v) (hd : RdD w a2 n2 c2 ds) (ho : ∀ y ∈ o, (vrc y).Ok) (hv : ∀ y ∈ v, (vrc y).Ok) :
    Calls Try.prog 10 #[.slice a n c, .slice a' n' c', .slice a2 n2 c2] w (Ret w (dfl (chl o v (ds.map ddl)))) := by
  obtain ⟨M, hM⟩ : ∃ M, max n n' = M := ⟨_, rfl⟩
  have hg := eqlM6_guard
  have hne := eqlM6
  have HM := hid hM
  have HR := hid h
  have HR' := hid h'
  have HD := hid hd
  have HL := hid h.len
  have HL' := hid h'.len
  have HLD := hid hd.len
  have hs := h.small
  have hs' := h'.small
  have hs2 := hd.small
  have HVO := hid ho
  have HVV := hid hv
  have HE : Hid (dfl (chN o v (ds.map ddl) M) = dfl (chl o v (ds.map ddl))) := by
    rw [Hid, chl, HL.out, HL'.out, HM.out]
  have CA : Hid (∀ (b : Option Addr) (d : Nat) (L : List Rc) (r : Rc) (u : World), r.Ok → RdC u b (dfl L).length d (dfl L) → Calls Try.prog 19 #[.slice b (dfl L).length d, .agg #[.int .i64 r.x, .int .i64 r.y, .int .i64 r.w, .int .i64 r.h]] u (Ret u (dfl (L ++ [r])))) := fun b d L r u ok hu => by
    have := raddr_any b _ d _ r ok u hu
    rwa [dput_dfl] at this
  generalize dfl (chl o v (ds.map ddl)) = R at HE ⊢
  obtain ⟨D, hDD⟩ : ∃ D, ds.map ddl = D := ⟨_, rfl⟩
  have HDM := hid hDD
  rw [hDD] at HE
  clear h h' hd ho hv hM hDD
  go_enter Try.func10, Try.ntmps10
  go_wp2
  go_loopw [7, 8] (fun s7 i wr => ∃ (j : Nat) (b : Option Addr) (d : Nat), i = .int .i64 j ∧ s7 = .slice b (dfl (chN o v D j)).length d ∧ j ≤ M ∧ RdC wr b (dfl (chN o v D j)).length d (dfl (chN o v D j)) ∧ Below w.heap.size w wr) (fun _ i _ => M - (numOf i).toNat)
  case atStart => exact ⟨0, none, 0, rfl, rfl, by omega, RdC.nil _, Below.refl _ _⟩
  case round =>
    obtain ⟨j, b, d, rfl, rfl, hj, h3, hb⟩ := hrel
    have H3 := hid h3
    have HB := hid hb
    clear h3 hb
    by_cases hgo : j < M
    · have HS := hid (chN_succ o v D j)
      obtain ⟨A0, hA0⟩ : ∃ A0, chN o v D j = A0 := ⟨_, rfl⟩
      rw [hA0] at HS H3 ⊢
      clear hA0
      by_cases hjn : j < n
      · have e1 : decide ((j : Int) < n) = true := decide_eq_true (by omega)
        have e2 : (j : Int) < n := by omega
        obtain ⟨bx, ox, x0, x1, x2, x3, x4, x5, rfl, hbx, hox, c0, c1, c2, c3, c4, c5⟩ := (HR.out.on HB.out).el6 hjn
        have okx := HVO.out _ (List.mem_of_getElem? hox)
        rw [hox] at HS
        have CX := hid (fun b d L u => CA.out b d L (vrc [x0, x1, x2, x3, x4, x5]) u okx)
        rw [show vrc [x0, x1, x2, x3, x4, x5] = ⟨x2, x3, x4, x5⟩ from rfl] at CX
        clear okx hox
        by_cases hjn' : j < n'
        · have e3 : decide ((j : Int) < n') = true := decide_eq_true (by omega)
          have e4 : (j : Int) < n' := by omega
          obtain ⟨by_, oy, y0, y1, y2, y3, y4, y5, rfl, hby, hoy, d0, d1, d2, d3, d4, d5⟩ := (HR'.out.on HB.out).el6 hjn'
          have oky := HVV.out _ (List.mem_of_getElem? hoy)
          have HOY := hid (List.mem_of_getElem? hoy)
          rw [hoy] at HS
          have CY := hid (fun b d L u => CA.out b d L (vrc [y0, y1, y2, y3, y4, y5]) u oky)
          rw [show vrc [y0, y1, y2, y3, y4, y5] = ⟨y2, y3, y4, y5⟩ from rfl] at CY
          clear oky hoy
          have hn0 := hne x0 x1 x2 x3 x4 x5 y0 y1 y2 y3 y4 y5
          clear hne
          by_cases hxy : [x0, x1, x2, x3, x4, x5] = [y0, y1, y2, y3, y4, y5]
          · rw [show leq [x0, x1, x2, x3, x4, x5] [y0, y1, y2, y3, y4, y5] = true from decide_eq_true hxy] at hn0
            rw [hxy, chp_same] at HS
            obtain ⟨y, hy⟩ : ∃ y, [y0, y1, y2, y3, y4, y5] = y := ⟨_, rfl⟩
            have ey : nm5 0 y = y0 := by rw [← hy]; rfl
            have CS : Hid (∀ (r : Rc) (u : World), r.Ok → Calls Try.prog 20 #[.agg #[.int .i64 y0, .int .i64 y1, .int .i64 y2, .int .i64 y3, .int .i64 y4, .int .i64 y5], .agg #[.int .i64 r.x, .int .i64 r.y, .int .i64 r.w, .int .i64 r.h]] u fun e w' => e = .returned (.agg #[.int .i64 (spt y r).x, .int .i64 (spt y r).y, .int .i64 (spt y r).w, .int .i64 (spt y r).h]) ∧ Below u.heap.size u w') := fun r u ok => by
              rw [← hy]
              exact qrspot_any y0 y1 y2 y3 y4 y5 r ok u
            rw [hy] at HS
            clear hxy hy CX CY
            go_wp2
            go_quiet (fail)
            have HB1 := hid (below_drewN HB.out nq)
            have hby1 : by_ < (wr.drewN nq).heap.size := by simpa using hby
            have H31 := hid (H3.out.drewN nq)
            have d0' : (wr.drewN nq).cell? ⟨by_, oy + j * 6, none⟩ = some (.int .i64 y0) := by simpa using d0
            have d1' : (wr.drewN nq).cell? ⟨by_, oy + j * 6 + 1, none⟩ = some (.int .i64 y1) := by simpa using d1
            have d2' : (wr.drewN nq).cell? ⟨by_, oy + j * 6 + 2, none⟩ = some (.int .i64 y2) := by simpa using d2
            have d3' : (wr.drewN nq).cell? ⟨by_, oy + j * 6 + 3, none⟩ = some (.int .i64 y3) := by simpa using d3
            have d4' : (wr.drewN nq).cell? ⟨by_, oy + j * 6 + 4, none⟩ = some (.int .i64 y4) := by simpa using d4
            have d5' : (wr.drewN nq).cell? ⟨by_, oy + j * 6 + 5, none⟩ = some (.int .i64 y5) := by simpa using d5
            generalize wr.drewN nq = W1 at HB1 hby1 H31 d0' d1' d2' d3' d4' d5' ⊢
            clear c0 c1 c2 c3 c4 c5 d0 d1 d2 d3 d4 d5 hby hbx HB H3 hn0
            go_wp2
            go_loopw [7, 9] (fun s7 i9 wk => ∃ (k : Nat) (b : Option Addr) (d : Nat), i9 = .int .i64 k ∧ s7 = .slice b (dfl (A0 ++ qdm y (D.take k))).length d ∧ k ≤ n2 ∧ RdC wk b (dfl (A0 ++ qdm y (D.take k))).length d (dfl (A0 ++ qdm y (D.take k))) ∧ Below W1.heap.size W1 wk) (fun _ i _ => n2 - (numOf i).toNat)
            case atStart => exact ⟨0, b, d, rfl, by simp [qdm], by omega, by simpa [qdm] using H31.out, Below.refl _ _⟩
            case round =>
              obtain ⟨k, b3, d3, rfl, rfl, hk, h3, hb⟩ := hrel
              obtain ⟨wk, rfl⟩ : ∃ W, W = wr := ⟨_, rfl⟩
              have H3 := hid h3
              have HB := hid hb
              clear h3 hb H31
              by_cases hgk : k < n2
              · have e5 : decide ((k : Int) < n2) = true := decide_eq_true (by omega)
                have e6 : (k : Int) < n2 := by omega
                obtain ⟨bd, od, dv, rfl, hbd, hdv, okd, f0, f1⟩ := ((HD.out.on HB1.out).on HB.out).el hgk
                have hrm : D[k]? = some (ddl dv) := by rw [← HDM.out, List.getElem?_map, hdv]; rfl
                have HRC := hid okd.rc
                obtain ⟨s, da, dn, dc, dl⟩ := dv
                dsimp only at f0 f1 HRC
                have hdn := HRC.out.small
                obtain ⟨X, hX⟩ : ∃ X, (if s = y0 then dl.map (spt y) else []) = X := ⟨_, rfl⟩
                have HSK : Hid (qdm y (D.take (k + 1)) = qdm y (D.take k) ++ X) := by
                  rw [Hid, qdm_snoc hrm, ← hX]
                  simp only [ddl, ey]
                have HX1 : Hid (s = y0 → X = dl.map (spt y)) := fun h => by rw [← hX, if_pos h]
                have HX0 : Hid (s ≠ y0 → X = []) := fun h => by rw [← hX, if_neg h]
                obtain ⟨A1, hA1⟩ : ∃ A1, A0 ++ qdm y (D.take k) = A1 := ⟨_, rfl⟩
                have HSA : Hid (A0 ++ qdm y (D.take (k + 1)) = A1 ++ X) := by rw [Hid, HSK.out, ← hA1, List.append_assoc]
                rw [hA1] at H3 ⊢
                clear hA1 HSK hX hrm hdv okd
                go_wp2
                go_loopw [7, 10] (fun s7 i10 wi => ∃ (i : Nat) (b : Option Addr) (d : Nat), i10 = .int .i64 i ∧ s7 = .slice b (dfl (A1 ++ X.take i)).length d ∧ i ≤ X.length ∧ RdC wi b (dfl (A1 ++ X.take i)).length d (dfl (A1 ++ X.take i)) ∧ Below wk.heap.size wk wi) (fun _ i _ => X.length - (numOf i).toNat)
                case atStart => exact ⟨0, b3, d3, rfl, by simp, by omega, by simpa using H3.out, Below.refl _ _⟩
                case round =>
                  obtain ⟨i, b4, d4, rfl, rfl, hi, h4, hbi⟩ := hrel
                  obtain ⟨wi, rfl⟩ : ∃ W, W = wr := ⟨_, rfl⟩
                  have H4 := hid h4
                  have HBI := hid hbi
                  clear h4 hbi H3
                  have hbyk : by_ < wk.heap.size := Nat.lt_of_lt_of_le hby1 HB.out.size
                  have g0 := (HBI.out.cell hbyk).trans ((HB.out.cell hby1).trans d0')
                  have m0 := (HBI.out.cell hbd).trans f0
                  have m1 := (HBI.out.cell hbd).trans f1
                  by_cases hsy : s = y0
                  · have HXE := hid (HX1.out hsy)
                    have HXL : Hid (X.length = dn) := by rw [Hid, HXE.out, List.length_map, HRC.out.len]
                    subst hsy
                    have t1 : (s == s) = true := by simp
                    have g1 := (HBI.out.cell hbyk).trans ((HB.out.cell hby1).trans d1')
                    have g2 := (HBI.out.cell hbyk).trans ((HB.out.cell hby1).trans d2')
                    have g3 := (HBI.out.cell hbyk).trans ((HB.out.cell hby1).trans d3')
                    have g4 := (HBI.out.cell hbyk).trans ((HB.out.cell hby1).trans d4')
                    have g5 := (HBI.out.cell hbyk).trans ((HB.out.cell hby1).trans d5')
                    by_cases hgi : i < dn
                    · have e7 : decide ((i : Int) < dn) = true := decide_eq_true (by omega)
                      have e8 : (i : Int) < dn := by omega
                      obtain ⟨br, or_, r, rfl, hbr, hr, okr, her⟩ := (HRC.out.on HBI.out).el hgi
                      obtain ⟨_, r0, r1, r2, r3⟩ := her
                      have hXi : X[i]? = some (spt y r) := by rw [HXE.out, List.getElem?_map, hr]; rfl
                      have HSI : Hid (A1 ++ X.take (i + 1) = (A1 ++ X.take i) ++ [spt y r]) := by
                        rw [Hid, List.take_add_one, hXi, List.append_assoc]
                        rfl
                      have CSr := hid (fun u => CS.out r u okr)
                      have CAr := hid (fun b d L u => CA.out b d L (spt y r) u (spt_ok y r))
                      have HIX : Hid (i + 1 ≤ X.length) := by rw [Hid, HXL.out]; omega
                      generalize spt y r = Q at CSr CAr HSI
                      have HLT : Hid (by_ < wi.heap.size ∧ bd < wi.heap.size ∧ br < wi.heap.size) := ⟨Nat.lt_of_lt_of_le hbyk HBI.out.size, Nat.lt_of_lt_of_le hbd HBI.out.size, hbr⟩
                      clear hXi okr hr
                      go_wp2
                      go_quiet (fail)
                      have HBU := hid (below_drewN (Below.refl wi.heap.size wi) nq)
                      have H4U := hid (H4.out.on HBU.out)
                      have k0 := (HBU.out.cell HLT.out.1).trans g0
                      have k1 := (HBU.out.cell HLT.out.1).trans g1
                      have k2 := (HBU.out.cell HLT.out.1).trans g2
                      have k3 := (HBU.out.cell HLT.out.1).trans g3
                      have k4 := (HBU.out.cell HLT.out.1).trans g4
                      have k5 := (HBU.out.cell HLT.out.1).trans g5
                      have l0 := (HBU.out.cell HLT.out.2.1).trans m0
                      have l1 := (HBU.out.cell HLT.out.2.1).trans m1
                      have p0 := (HBU.out.cell HLT.out.2.2).trans r0
                      have p1 := (HBU.out.cell HLT.out.2.2).trans r1
                      have p2 := (HBU.out.cell HLT.out.2.2).trans r2
                      have p3 := (HBU.out.cell HLT.out.2.2).trans r3
                      have HLU : Hid (by_ < (wi.drewN nq).heap.size ∧ bd < (wi.drewN nq).heap.size ∧ br < (wi.drewN nq).heap.size) := ⟨Nat.lt_of_lt_of_le HLT.out.1 HBU.out.size, Nat.lt_of_lt_of_le HLT.out.2.1 HBU.out.size, Nat.lt_of_lt_of_le HLT.out.2.2 HBU.out.size⟩
                      have HBK := hid (Below.on HBI.out HBU.out)
                      generalize wi.drewN nq = U at HBU H4U k0 k1 k2 k3 k4 k5 l0 l1 p0 p1 p2 p3 HLU HBK ⊢
                      clear g0 g1 g2 g3 g4 g5 m0 m1 r0 r1 r2 r3 H4 HBI HBU HLT
                      go_upto_region 12 with fail
                      refine wp_region_held_drew (S := fun x => Below U.heap.size U x) (by kernel_rfl) ?hh (fun hHeld => ?_)
                      case hh => exact ((Below.refl _ _).drew)
                      refine wpAnyH_take (i := 0) (v := ?_) rfl (by kernel_rfl) (by kernel_rfl) (by kernel_rfl) (fun _ _ _ h => h) (Or.inl ⟨by kernel_rfl, ?hy0⟩) (by assumption) ?_
                      case hy0 => (intro w hSw; (try dsimp only at hSw); have q0 := (hSw.cell HLU.out.1).trans k0; have q1 := (hSw.cell HLU.out.1).trans k1; have q2 := (hSw.cell HLU.out.1).trans k2; have q3 := (hSw.cell HLU.out.1).trans k3; have q4 := (hSw.cell HLU.out.1).trans k4; have q5 := (hSw.cell HLU.out.1).trans k5; have q6 := (hSw.cell HLU.out.2.1).trans l1; have q7 := (hSw.cell HLU.out.2.2).trans p0; have q8 := (hSw.cell HLU.out.2.2).trans p1; have q9 := (hSw.cell HLU.out.2.2).trans p2; have qa := (hSw.cell HLU.out.2.2).trans p3; go_simp; try with_reducible rfl)
                      try simp only [Act.put, List.getElem_toArray, List.getElem_cons_zero, List.setIfInBounds_toArray, List.set_cons_zero, List.set_cons_succ]
                      refine wpAnyH_take (i := 1) (v := ?_) rfl (by kernel_rfl) (by kernel_rfl) (by kernel_rfl) (fun _ _ _ h => h) (Or.inl ⟨by kernel_rfl, ?hy1⟩) (by assumption) ?_
                      case hy1 => (intro w hSw; (try dsimp only at hSw); have q0 := (hSw.cell HLU.out.1).trans k0; have q1 := (hSw.cell HLU.out.1).trans k1; have q2 := (hSw.cell HLU.out.1).trans k2; have q3 := (hSw.cell HLU.out.1).trans k3; have q4 := (hSw.cell HLU.out.1).trans k4; have q5 := (hSw.cell HLU.out.1).trans k5; have q6 := (hSw.cell HLU.out.2.1).trans l1; have q7 := (hSw.cell HLU.out.2.2).trans p0; have q8 := (hSw.cell HLU.out.2.2).trans p1; have q9 := (hSw.cell HLU.out.2.2).trans p2; have qa := (hSw.cell HLU.out.2.2).trans p3; go_simp; try with_reducible rfl)
                      try simp only [Act.put, List.getElem_toArray, List.getElem_cons_zero, List.getElem_cons_succ, List.setIfInBounds_toArray, List.set_cons_zero, List.set_cons_succ]
                      refine wpAnyH_take (i := 2) (v := ?_) rfl (by kernel_rfl) (by kernel_rfl) (by kernel_rfl) (fun _ _ _ h => h) (Or.inl ⟨by kernel_rfl, ?hy2⟩) (by assumption) ?_
                      case hy2 => (intro w hSw; (try dsimp only at hSw); have q0 := (hSw.cell HLU.out.1).trans k0; have q1 := (hSw.cell HLU.out.1).trans k1; have q2 := (hSw.cell HLU.out.1).trans k2; have q3 := (hSw.cell HLU.out.1).trans k3; have q4 := (hSw.cell HLU.out.1).trans k4; have q5 := (hSw.cell HLU.out.1).trans k5; have q6 := (hSw.cell HLU.out.2.1).trans l1; have q7 := (hSw.cell HLU.out.2.2).trans p0; have q8 := (hSw.cell HLU.out.2.2).trans p1; have q9 := (hSw.cell HLU.out.2.2).trans p2; have qa := (hSw.cell HLU.out.2.2).trans p3; go_simp; try with_reducible rfl)
                      try simp only [Act.put, List.getElem_toArray, List.getElem_cons_zero, List.getElem_cons_succ, List.setIfInBounds_toArray, List.set_cons_zero, List.set_cons_succ]
                      refine wpAnyH_take (i := 3) (v := ?_) rfl (by kernel_rfl) (by kernel_rfl) (by kernel_rfl) (fun _ _ _ h => h) (Or.inl ⟨by kernel_rfl, ?hy3⟩) (by assumption) ?_
                      case hy3 => (intro w hSw; (try dsimp only at hSw); have q0 := (hSw.cell HLU.out.1).trans k0; have q1 := (hSw.cell HLU.out.1).trans k1; have q2 := (hSw.cell HLU.out.1).trans k2; have q3 := (hSw.cell HLU.out.1).trans k3; have q4 := (hSw.cell HLU.out.1).trans k4; have q5 := (hSw.cell HLU.out.1).trans k5; have q6 := (hSw.cell HLU.out.2.1).trans l1; have q7 := (hSw.cell HLU.out.2.2).trans p0; have q8 := (hSw.cell HLU.out.2.2).trans p1; have q9 := (hSw.cell HLU.out.2.2).trans p2; have qa := (hSw.cell HLU.out.2.2).trans p3; go_simp; try with_reducible rfl)
                      try simp only [Act.put, List.getElem_toArray, List.getElem_cons_zero, List.getElem_cons_succ, List.setIfInBounds_toArray, List.set_cons_zero, List.set_cons_succ]
                      refine wpAnyH_take (i := 4) (v := ?_) rfl (by kernel_rfl) (by kernel_rfl) (by kernel_rfl) (fun _ _ _ h => h) (Or.inl ⟨by kernel_rfl, ?hy4⟩) (by assumption) ?_
                      case hy4 => (intro w hSw; (try dsimp only at hSw); have q0 := (hSw.cell HLU.out.1).trans k0; have q1 := (hSw.cell HLU.out.1).trans k1; have q2 := (hSw.cell HLU.out.1).trans k2; have q3 := (hSw.cell HLU.out.1).trans k3; have q4 := (hSw.cell HLU.out.1).trans k4; have q5 := (hSw.cell HLU.out.1).trans k5; have q6 := (hSw.cell HLU.out.2.1).trans l1; have q7 := (hSw.cell HLU.out.2.2).trans p0; have q8 := (hSw.cell HLU.out.2.2).trans p1; have q9 := (hSw.cell HLU.out.2.2).trans p2; have qa := (hSw.cell HLU.out.2.2).trans p3; go_simp; try with_reducible rfl)
                      try simp only [Act.put, List.getElem_toArray, List.getElem_cons_zero, List.getElem_cons_succ, List.setIfInBounds_toArray, List.set_cons_zero, List.set_cons_succ]
                      refine wpAnyH_take (i := 5) (v := ?_) rfl (by kernel_rfl) (by kernel_rfl) (by kernel_rfl) (fun _ _ _ h => h) (Or.inl ⟨by kernel_rfl, ?hy5⟩) (by assumption) ?_
                      case hy5 => (intro w hSw; (try dsimp only at hSw); have q0 := (hSw.cell HLU.out.1).trans k0; have q1 := (hSw.cell HLU.out.1).trans k1; have q2 := (hSw.cell HLU.out.1).trans k2; have q3 := (hSw.cell HLU.out.1).trans k3; have q4 := (hSw.cell HLU.out.1).trans k4; have q5 := (hSw.cell HLU.out.1).trans k5; have q6 := (hSw.cell HLU.out.2.1).trans l1; have q7 := (hSw.cell HLU.out.2.2).trans p0; have q8 := (hSw.cell HLU.out.2.2).trans p1; have q9 := (hSw.cell HLU.out.2.2).trans p2; have qa := (hSw.cell HLU.out.2.2).trans p3; go_simp; try with_reducible rfl)
                      try simp only [Act.put, List.getElem_toArray, List.getElem_cons_zero, List.getElem_cons_succ, List.setIfInBounds_toArray, List.set_cons_zero, List.set_cons_succ]
                      refine wpAnyH_take (i := 6) (v := ?_) rfl (by kernel_rfl) (by kernel_rfl) (by kernel_rfl) (fun _ _ _ h => h) (Or.inl ⟨by kernel_rfl, ?hy6⟩) (by assumption) ?_
                      case hy6 => (intro w hSw; (try dsimp only at hSw); have q0 := (hSw.cell HLU.out.1).trans k0; have q1 := (hSw.cell HLU.out.1).trans k1; have q2 := (hSw.cell HLU.out.1).trans k2; have q3 := (hSw.cell HLU.out.1).trans k3; have q4 := (hSw.cell HLU.out.1).trans k4; have q5 := (hSw.cell HLU.out.1).trans k5; have q6 := (hSw.cell HLU.out.2.1).trans l1; have q7 := (hSw.cell HLU.out.2.2).trans p0; have q8 := (hSw.cell HLU.out.2.2).trans p1; have q9 := (hSw.cell HLU.out.2.2).trans p2; have qa := (hSw.cell HLU.out.2.2).trans p3; go_simp; try with_reducible rfl)
                      try simp only [Act.put, List.getElem_toArray, List.getElem_cons_zero, List.getElem_cons_succ, List.setIfInBounds_toArray, List.set_cons_zero, List.set_cons_succ]
                      refine wpAnyH_take (i := 7) (v := ?_) rfl (by kernel_rfl) (by kernel_rfl) (by kernel_rfl) (fun _ _ _ h => h) (Or.inl ⟨by kernel_rfl, ?hy7⟩) (by assumption) ?_
                      case hy7 => (intro w hSw; (try dsimp only at hSw); have q0 := (hSw.cell HLU.out.1).trans k0; have q1 := (hSw.cell HLU.out.1).trans k1; have q2 := (hSw.cell HLU.out.1).trans k2; have q3 := (hSw.cell HLU.out.1).trans k3; have q4 := (hSw.cell HLU.out.1).trans k4; have q5 := (hSw.cell HLU.out.1).trans k5; have q6 := (hSw.cell HLU.out.2.1).trans l1; have q7 := (hSw.cell HLU.out.2.2).trans p0; have q8 := (hSw.cell HLU.out.2.2).trans p1; have q9 := (hSw.cell HLU.out.2.2).trans p2; have qa := (hSw.cell HLU.out.2.2).trans p3; go_simp; try with_reducible rfl)
                      try simp only [Act.put, List.getElem_toArray, List.getElem_cons_zero, List.getElem_cons_succ, List.setIfInBounds_toArray, List.set_cons_zero, List.set_cons_succ]
                      refine wpAnyH_take (i := 8) (v := ?_) rfl (by kernel_rfl) (by kernel_rfl) (by kernel_rfl) (fun _ _ _ h => h) (Or.inl ⟨by kernel_rfl, ?hy8⟩) (by assumption) ?_
                      case hy8 => (intro w hSw; (try dsimp only at hSw); have q0 := (hSw.cell HLU.out.1).trans k0; have q1 := (hSw.cell HLU.out.1).trans k1; have q2 := (hSw.cell HLU.out.1).trans k2; have q3 := (hSw.cell HLU.out.1).trans k3; have q4 := (hSw.cell HLU.out.1).trans k4; have q5 := (hSw.cell HLU.out.1).trans k5; have q6 := (hSw.cell HLU.out.2.1).trans l1; have q7 := (hSw.cell HLU.out.2.2).trans p0; have q8 := (hSw.cell HLU.out.2.2).trans p1; have q9 := (hSw.cell HLU.out.2.2).trans p2; have qa := (hSw.cell HLU.out.2.2).trans p3; go_simp; try with_reducible rfl)
                      try simp only [Act.put, List.getElem_toArray, List.getElem_cons_zero, List.getElem_cons_succ, List.setIfInBounds_toArray, List.set_cons_zero, List.set_cons_succ]
                      refine wpAnyH_take (i := 9) (v := ?_) rfl (by kernel_rfl) (by kernel_rfl) (by kernel_rfl) (fun _ _ _ h => h) (Or.inl ⟨by kernel_rfl, ?hy9⟩) (by assumption) ?_
                      case hy9 => (intro w hSw; (try dsimp only at hSw); have q0 := (hSw.cell HLU.out.1).trans k0; have q1 := (hSw.cell HLU.out.1).trans k1; have q2 := (hSw.cell HLU.out.1).trans k2; have q3 := (hSw.cell HLU.out.1).trans k3; have q4 := (hSw.cell HLU.out.1).trans k4; have q5 := (hSw.cell HLU.out.1).trans k5; have q6 := (hSw.cell HLU.out.2.1).trans l1; have q7 := (hSw.cell HLU.out.2.2).trans p0; have q8 := (hSw.cell HLU.out.2.2).trans p1; have q9 := (hSw.cell HLU.out.2.2).trans p2; have qa := (hSw.cell HLU.out.2.2).trans p3; go_simp; try with_reducible rfl)
                      try simp only [Act.put, List.getElem_toArray, List.getElem_cons_zero, List.getElem_cons_succ, List.setIfInBounds_toArray, List.set_cons_zero, List.set_cons_succ]
                      refine wpAnyH_take (i := 10) (v := ?_) rfl (by kernel_rfl) (by kernel_rfl) (by kernel_rfl) (fun _ _ _ h => h) (Or.inl ⟨by kernel_rfl, ?hy10⟩) (by assumption) ?_
                      case hy10 => (intro w hSw; (try dsimp only at hSw); have q0 := (hSw.cell HLU.out.1).trans k0; have q1 := (hSw.cell HLU.out.1).trans k1; have q2 := (hSw.cell HLU.out.1).trans k2; have q3 := (hSw.cell HLU.out.1).trans k3; have q4 := (hSw.cell HLU.out.1).trans k4; have q5 := (hSw.cell HLU.out.1).trans k5; have q6 := (hSw.cell HLU.out.2.1).trans l1; have q7 := (hSw.cell HLU.out.2.2).trans p0; have q8 := (hSw.cell HLU.out.2.2).trans p1; have q9 := (hSw.cell HLU.out.2.2).trans p2; have qa := (hSw.cell HLU.out.2.2).trans p3; go_simp; try with_reducible rfl)
                      try simp only [Act.put, List.getElem_toArray, List.getElem_cons_zero, List.getElem_cons_succ, List.setIfInBounds_toArray, List.set_cons_zero, List.set_cons_succ]
                      refine wpAnyH_take (i := 11) (v := ?_) rfl (by kernel_rfl) (by kernel_rfl) (by kernel_rfl) (fun _ _ _ h => h) (Or.inl ⟨by kernel_rfl, ?hy11⟩) (by assumption) ?_
                      case hy11 => (intro w hSw; (try dsimp only at hSw); have q0 := (hSw.cell HLU.out.1).trans k0; have q1 := (hSw.cell HLU.out.1).trans k1; have q2 := (hSw.cell HLU.out.1).trans k2; have q3 := (hSw.cell HLU.out.1).trans k3; have q4 := (hSw.cell HLU.out.1).trans k4; have q5 := (hSw.cell HLU.out.1).trans k5; have q6 := (hSw.cell HLU.out.2.1).trans l1; have q7 := (hSw.cell HLU.out.2.2).trans p0; have q8 := (hSw.cell HLU.out.2.2).trans p1; have q9 := (hSw.cell HLU.out.2.2).trans p2; have qa := (hSw.cell HLU.out.2.2).trans p3; go_simp; try with_reducible rfl)
                      try simp only [Act.put, List.getElem_toArray, List.getElem_cons_zero, List.getElem_cons_succ, List.setIfInBounds_toArray, List.set_cons_zero, List.set_cons_succ]
                      refine wpAnyH_take (i := 12) (v := ?_) rfl (by kernel_rfl) (by kernel_rfl) (by kernel_rfl) (fun _ _ _ h => h) (Or.inl ⟨by kernel_rfl, ?hy12⟩) (by assumption) ?_
                      case hy12 => (intro w hSw; (try dsimp only at hSw); have q0 := (hSw.cell HLU.out.1).trans k0; have q1 := (hSw.cell HLU.out.1).trans k1; have q2 := (hSw.cell HLU.out.1).trans k2; have q3 := (hSw.cell HLU.out.1).trans k3; have q4 := (hSw.cell HLU.out.1).trans k4; have q5 := (hSw.cell HLU.out.1).trans k5; have q6 := (hSw.cell HLU.out.2.1).trans l1; have q7 := (hSw.cell HLU.out.2.2).trans p0; have q8 := (hSw.cell HLU.out.2.2).trans p1; have q9 := (hSw.cell HLU.out.2.2).trans p2; have qa := (hSw.cell HLU.out.2.2).trans p3; go_simp; try with_reducible rfl)
                      try simp only [Act.put, List.getElem_toArray, List.getElem_cons_zero, List.getElem_cons_succ, List.setIfInBounds_toArray, List.set_cons_zero, List.set_cons_succ]
                      refine wpAnyH_ready (rs := [13]) (by kernel_rfl) (by simp) ?_
                      refine AllReadyH.cons rfl (fun K hK => ?_) AllReadyH.nil
                      go_simp
                      go_wp2_with fail
                      refine (CSr.out _).mono ?_
                      rintro e v1 ⟨rfl, hb1⟩
                      have hH := Below.on hHeld hb1
                      refine hK.out _ _ hH (fun _ => ?_)
                      clear hK K hHeld hb1
                      have hHeld := hH
                      clear hH
                      refine wpAnyH_ready (rs := [14]) (by kernel_rfl) (by simp) ?_
                      refine AllReadyH.cons rfl (fun K hK => ?_) AllReadyH.nil
                      go_simp
                      go_wp2_with fail
                      refine (CAr.out _ _ _ _ (H4U.out.on hHeld)).mono ?_
                      rintro e v2 ⟨a5, c5, rfl, h5, hb5⟩
                      have H5 := hid h5
                      have hH := Below.on hHeld hb5
                      refine hK.out _ _ hH (fun _ => ?_)
                      clear hK K hHeld hb5 h5
                      have hHeld := hH
                      clear hH
                      refine wpAnyH_take (i := 15) (v := ?_) rfl (by kernel_rfl) (by kernel_rfl) (by kernel_rfl) (fun _ _ _ h => h) (Or.inl ⟨by kernel_rfl, ?hy15⟩) (by assumption) ?_
                      case hy15 => (intro w hSw; (try dsimp only at hSw); have q0 := (hSw.cell HLU.out.1).trans k0; have q1 := (hSw.cell HLU.out.1).trans k1; have q2 := (hSw.cell HLU.out.1).trans k2; have q3 := (hSw.cell HLU.out.1).trans k3; have q4 := (hSw.cell HLU.out.1).trans k4; have q5 := (hSw.cell HLU.out.1).trans k5; have q6 := (hSw.cell HLU.out.2.1).trans l1; have q7 := (hSw.cell HLU.out.2.2).trans p0; have q8 := (hSw.cell HLU.out.2.2).trans p1; have q9 := (hSw.cell HLU.out.2.2).trans p2; have qa := (hSw.cell HLU.out.2.2).trans p3; go_simp; try with_reducible rfl)
                      try simp only [Act.put, List.getElem_toArray, List.getElem_cons_zero, List.getElem_cons_succ, List.setIfInBounds_toArray, List.set_cons_zero, List.set_cons_succ]
                      refine wpAnyH_done (by kernel_rfl) ?_ _
                      have HB5 := hid (Below.on HBK.out hHeld)
                      clear hHeld k0 k1 k2 k3 k4 k5 l0 l1 p0 p1 p2 p3 H4U HBK HLU
                      go_wp2
                      go_roundw
                      case rel => exact ⟨i + 1, a5, c5, by go_num, by rw [HSI.out, List.append_assoc], HIX.out, by rw [HSI.out]; exact H5.out, HB5.out⟩
                      case measure =>
                        have := HIX.out
                        simp [numOf]; omega
                    · have e7 : decide ((i : Int) < dn) = false := decide_eq_false (by omega)
                      have HT : Hid (X.take i = X) := List.take_of_length_le (by rw [HXL.out]; omega)
                      rw [HT.out] at H4
                      have HZ : Hid (dfl (A1 ++ X.take i) = dfl (A1 ++ X)) := by rw [Hid, HT.out]
                      rw [HZ.out]
                      go_wp2
                      go_quiet (fail)
                      have HBU := hid (Below.on HB.out (below_drewN HBI.out nq))
                      have H4U := hid (H4.out.on (below_drewN (Below.refl wi.heap.size wi) nq))
                      go_wp2
                      go_roundw
                      case rel => exact ⟨k + 1, b4, d4, by go_num, by rw [HSA.out], by omega, by rw [HSA.out]; exact H4U.out, HBU.out⟩
                      case measure => simp [numOf]; omega
                  · have HXE := hid (HX0.out hsy)
                    have t1 : (s == y0) = false := by simpa using hsy
                    have HZ : Hid (dfl (A1 ++ X.take i) = dfl (A1 ++ X)) := by rw [Hid, HXE.out]; simp
                    rw [HZ.out] at H4 ⊢
                    clear hsy
                    go_wp2
                    go_quiet (fail)
                    have HBU := hid (Below.on HB.out (below_drewN HBI.out nq))
                    have H4U := hid (H4.out.on (below_drewN (Below.refl wi.heap.size wi) nq))
                    go_wp2
                    go_roundw
                    case rel => exact ⟨k + 1, b4, d4, by go_num, by rw [HSA.out], by omega, by rw [HSA.out]; exact H4U.out, HBU.out⟩
                    case measure => simp [numOf]; omega
              · have e5 : decide ((k : Int) < n2) = false := decide_eq_false (by omega)
                have HT : Hid (D.take k = D) := List.take_of_length_le (by rw [← HDM.out, List.length_map, HLD.out]; omega)
                rw [HT.out] at H3 ⊢
                have HBU := hid (Below.on HB1.out HB.out)
                go_wp2
                go_roundw
                case rel => exact ⟨j + 1, b3, d3, by go_num, by rw [HS.out], by omega, by rw [HS.out]; exact H3.out, HBU.out⟩
                case measure => simp [numOf]; omega
          · rw [show leq [x0, x1, x2, x3, x4, x5] [y0, y1, y2, y3, y4, y5] = false from decide_eq_false hxy] at hn0
            rw [chp_diff (fun e => hxy (Option.some.inj e))] at HS
            have HS2 : Hid (chN o v D (j + 1) = (A0 ++ [⟨x2, x3, x4, x5⟩]) ++ [⟨y2, y3, y4, y5⟩]) := by
              rw [Hid, HS.out, List.append_assoc]
              rfl
            clear hxy HS
            go_wp2
            go_quiet (fail)
            have HB1 := hid (below_drewN (Below.refl wr.heap.size wr) nq)
            have HB1w := hid (Below.on HB.out HB1.out)
            have H31 := hid (H3.out.drewN nq)
            have HLT : Hid (bx < (wr.drewN nq).heap.size ∧ by_ < (wr.drewN nq).heap.size) := ⟨Nat.lt_of_lt_of_le hbx HB1.out.size, Nat.lt_of_lt_of_le hby HB1.out.size⟩
            have k0 := (HB1.out.cell hbx).trans c0
            have k1 := (HB1.out.cell hbx).trans c1
            have k2 := (HB1.out.cell hbx).trans c2
            have k3 := (HB1.out.cell hbx).trans c3
            have k4 := (HB1.out.cell hbx).trans c4
            have k5 := (HB1.out.cell hbx).trans c5
            have l0 := (HB1.out.cell hby).trans d0
            have l1 := (HB1.out.cell hby).trans d1
            have l2 := (HB1.out.cell hby).trans d2
            have l3 := (HB1.out.cell hby).trans d3
            have l4 := (HB1.out.cell hby).trans d4
            have l5 := (HB1.out.cell hby).trans d5
            generalize wr.drewN nq = W1 at HB1 HB1w H31 HLT k0 k1 k2 k3 k4 k5 l0 l1 l2 l3 l4 l5 ⊢
            clear c0 c1 c2 c3 c4 c5 d0 d1 d2 d3 d4 d5 hby hbx HB H3 hn0 HB1
            go_wp2_with fail
            refine (qrrect_any x0 x1 x2 x3 x4 x5 _).mono ?_
            rintro e v1 ⟨rfl, hb1⟩
            have HB2 := hid hb1
            have H32 := hid (H31.out.on hb1)
            clear hb1 H31
            go_wp2_with fail
            refine (CX.out _ _ _ _ H32.out).mono ?_
            rintro e v2 ⟨a5, c5, rfl, h5, hb5⟩
            have H5 := hid h5
            have HB3 := hid (Below.on HB2.out hb5)
            clear h5 hb5 H32 HB2 CX k0 k1 k2 k3 k4 k5
            have l0' := (HB3.out.cell HLT.out.2).trans l0
            have l1' := (HB3.out.cell HLT.out.2).trans l1
            have l2' := (HB3.out.cell HLT.out.2).trans l2
            have l3' := (HB3.out.cell HLT.out.2).trans l3
            have l4' := (HB3.out.cell HLT.out.2).trans l4
            have l5' := (HB3.out.cell HLT.out.2).trans l5
            have HB3w := hid (Below.on HB1w.out HB3.out)
            clear l0 l1 l2 l3 l4 l5 HLT HB3 HB1w
            go_wp2_with fail
            refine (qrrect_any y0 y1 y2 y3 y4 y5 _).mono ?_
            rintro e v3 ⟨rfl, hb6⟩
            have HB4 := hid (Below.on HB3w.out hb6)
            have H6 := hid (H5.out.on hb6)
            clear hb6 H5 HB3w l0' l1' l2' l3' l4' l5'
            go_wp2_with fail
            refine (CY.out _ _ _ _ H6.out).mono ?_
            rintro e v4 ⟨a7, c7, rfl, h7, hb7⟩
            have H7 := hid h7
            have HB7 := hid (Below.on HB4.out hb7)
            rw [← HS2.out] at H7
            clear h7 hb7 H6 HB4 CY
            go_wp2
            go_roundw
            case rel => exact ⟨j + 1, a7, c7, by go_num, by rw [HS2.out, List.append_assoc, List.cons_append, List.nil_append], by omega, H7.out, HB7.out⟩
            case measure => simp [numOf]; omega
        · have e3 : decide ((j : Int) < n') = false := decide_eq_false (by omega)
          have hov : v[j]? = none := List.getElem?_eq_none (by rw [HL'.out]; omega)
          rw [hov, chp_diff (by simp)] at HS
          have HS2 : Hid (chN o v D (j + 1) = A0 ++ [⟨x2, x3, x4, x5⟩]) := HS
          clear HS hov
          go_wp2
          go_quiet (fail)
          have HB1 := hid (below_drewN (Below.refl wr.heap.size wr) nq)
          have HB1w := hid (Below.on HB.out HB1.out)
          have H31 := hid (H3.out.drewN nq)
          have k0 := (HB1.out.cell hbx).trans c0
          have k1 := (HB1.out.cell hbx).trans c1
          have k2 := (HB1.out.cell hbx).trans c2
          have k3 := (HB1.out.cell hbx).trans c3
          have k4 := (HB1.out.cell hbx).trans c4
          have k5 := (HB1.out.cell hbx).trans c5
          generalize wr.drewN nq = W1 at HB1 HB1w H31 k0 k1 k2 k3 k4 k5 ⊢
          clear c0 c1 c2 c3 c4 c5 hbx HB H3 HB1
          go_wp2_with fail
          refine (qrrect_any x0 x1 x2 x3 x4 x5 _).mono ?_
          rintro e v1 ⟨rfl, hb1⟩
          have HB2 := hid (Below.on HB1w.out hb1)
          have H32 := hid (H31.out.on hb1)
          clear hb1 H31 HB1w
          go_wp2_with fail
          refine (CX.out _ _ _ _ H32.out).mono ?_
          rintro e v2 ⟨a5, c5, rfl, h5, hb5⟩
          have H5 := hid h5
          have HB3 := hid (Below.on HB2.out hb5)
          rw [← HS2.out] at H5
          clear h5 hb5 H32 HB2 CX k0 k1 k2 k3 k4 k5
          go_wp2
          go_roundw
          case rel => exact ⟨j + 1, a5, c5, by go_num, by rw [HS2.out], by omega, H5.out, HB3.out⟩
          case measure => simp [numOf]; omega
      · have e1 : decide ((j : Int) < n) = false := decide_eq_false (by omega)
        have hjn' : j < n' := by have := HM.out; omega
        have e3 : decide ((j : Int) < n') = true := decide_eq_true (by omega)
        have e4 : (j : Int) < n' := by omega
        obtain ⟨by_, oy, y0, y1, y2, y3, y4, y5, rfl, hby, hoy, d0, d1, d2, d3, d4, d5⟩ := (HR'.out.on HB.out).el6 hjn'
        have oky := HVV.out _ (List.mem_of_getElem? hoy)
        have hov : o[j]? = none := List.getElem?_eq_none (by rw [HL.out]; omega)
        rw [hoy, hov, chp_diff (by simp)] at HS
        have HS2 : Hid (chN o v D (j + 1) = A0 ++ [⟨y2, y3, y4, y5⟩]) := HS
        have CY := hid (fun b d L u => CA.out b d L (vrc [y0, y1, y2, y3, y4, y5]) u oky)
        rw [show vrc [y0, y1, y2, y3, y4, y5] = ⟨y2, y3, y4, y5⟩ from rfl] at CY
        clear HS hov oky hoy hne
        go_wp2
        go_quiet (fail)
        have HB1 := hid (below_drewN (Below.refl wr.heap.size wr) nq)
        have HB1w := hid (Below.on HB.out HB1.out)
        have H31 := hid (H3.out.drewN nq)
        have k0 := (HB1.out.cell hby).trans d0
        have k1 := (HB1.out.cell hby).trans d1
        have k2 := (HB1.out.cell hby).trans d2
        have k3 := (HB1.out.cell hby).trans d3
        have k4 := (HB1.out.cell hby).trans d4
        have k5 := (HB1.out.cell hby).trans d5
        generalize wr.drewN nq = W1 at HB1 HB1w H31 k0 k1 k2 k3 k4 k5 ⊢
        clear d0 d1 d2 d3 d4 d5 hby HB H3 HB1
        go_wp2_with fail
        refine (qrrect_any y0 y1 y2 y3 y4 y5 _).mono ?_
        rintro e v1 ⟨rfl, hb1⟩
        have HB2 := hid (Below.on HB1w.out hb1)
        have H32 := hid (H31.out.on hb1)
        clear hb1 H31 HB1w
        go_wp2_with fail
        refine (CY.out _ _ _ _ H32.out).mono ?_
        rintro e v2 ⟨a5, c5, rfl, h5, hb5⟩
        have H5 := hid h5
        have HB3 := hid (Below.on HB2.out hb5)
        rw [← HS2.out] at H5
        clear h5 hb5 H32 HB2 CY k0 k1 k2 k3 k4 k5
        go_wp2
        go_roundw
        case rel => exact ⟨j + 1, a5, c5, by go_num, by rw [HS2.out], by omega, H5.out, HB3.out⟩
        case measure => simp [numOf]; omega
    · have e1 : decide ((j : Int) < n) = false := decide_eq_false (by have := HM.out; omega)
      have e3 : decide ((j : Int) < n') = false := decide_eq_false (by have := HM.out; omega)
      have q1 : n ≤ j := by have := HM.out; omega
      have q2 : n' ≤ j := by have := HM.out; omega
      obtain rfl : j = M := by omega
      rw [HE.out] at H3 ⊢
      go_wp2
      go_ret
      exact ⟨_, _, rfl, H3.out, HB.out⟩
end Go.Proofs.Ytlkodgmnhphfcaa
