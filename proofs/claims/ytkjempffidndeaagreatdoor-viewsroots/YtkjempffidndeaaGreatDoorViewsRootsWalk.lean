/- ViewsRoots: what is seen of a root has that root; of two roots it comes one behind the other; nothing that was there has turned. -/
import Derived.Test.YtkjempffidndeaaGreatDoorB43
namespace Go.Proofs.YtkjempffidndeaaGreatDoor.viewsRoots
open Go Go.RowKit

set_option maxRecDepth 100000 in
set_option maxHeartbeats 4000000 in
theorem core (a : Option Addr) (n c : Nat) (ra rb : Int) (a4 : Option Addr) (n4 c4 : Nat) (zs : List (List Int)) (w : World) (hr : RdQ w a n c) (hra : Bt ra) (hrb : Bt rb) (hz : RdM 3 w a4 n4 c4 zs) (es : List Addr) (hE : Errs w gerrs es) :
    Calls Tryz.prog 5 #[.slice a n c, .int .i64 ra, .int .i64 rb, .slice a4 n4 c4] w fun e w' => e = .returned (.bool true) ∧ Below w.heap.size w w' := by
  have hn4 := hz.small
  obtain ⟨i0, hi, hi0, hi1, hi2⟩ := infoMP infoView
  have CP := hid (play_any a n c w hr es hE)
  have AW : Hid (∀ W, RowKit.Below w.heap.size w W → Calls Tryz.prog 7 #[] W fun e w' => e = .returned (.bool true) ∧ RowKit.Below W.heap.size W w') := fun W hW => vawake_any W (fe_of (hE.below hW)) (Nat.le_trans (ng_of hE) hW.size)
  have HZ := hid hz
  have HRA := hid hra
  have HRB := hid hrb
  clear hr hz hE hra hrb
  go_enter Tryz.func5, Tryz.ntmps5
  go_wp2_with fail
  refine CP.out.mono ?_
  rintro e W1 ⟨p, q, F, ok, rfl, hB⟩
  have HB := hid hB
  have HBL := hid hB.bel
  clear hB CP
  have away : (ok = false ∨ (ok = true ∧ ¬ n4 ≤ 30)) ∨ (ok = true ∧ n4 ≤ 30) := by
    cases ok
    · exact .inl (.inl rfl)
    · rcases Nat.lt_or_ge 30 n4 with h | h
      · exact .inl (.inr ⟨rfl, by omega⟩)
      · exact .inr ⟨rfl, h⟩
  rcases away with h | ⟨rfl, hn30⟩
  · have CA := hid (AW.out W1 HBL.out)
    rcases h with rfl | ⟨rfl, hn⟩
    · clear HZ
      go_wp2_with fail
      refine CA.out.mono ?_
      rintro e W2 ⟨rfl, hb2⟩
      have HF := hid (Below.on HBL.out hb2)
      clear hb2 CA
      go_wp2
      go_ret
      exact ⟨rfl, HF.out⟩
    · have e1 : decide ((30 : Int) < (n4 : Int)) = true := decide_eq_true (by omega)
      clear HZ
      go_wp2_with fail
      refine CA.out.mono ?_
      rintro e W2 ⟨rfl, hb2⟩
      have HF := hid (Below.on HBL.out hb2)
      clear hb2 CA
      go_wp2
      go_ret
      exact ⟨rfl, HF.out⟩
  · have e1 : decide ((30 : Int) < (n4 : Int)) = false := decide_eq_false (by omega)
    have HS : Hid (∀ W, RowKit.Below W1.heap.size W1 W → Calls Tryz.prog 9 #[.slice a4 n4 c4] W fun e w' => ∃ v, e = .returned v ∧ OwM 3 67 W w' v zs) := fun W hW => sizes_any a4 n4 c4 zs W (HZ.out.on (Below.on HBL.out hW)) hn30
    have CR : Hid (∀ W (id : Int), RowKit.Below W1.heap.size W1 W → Bt id → Calls Tryz.prog 13 #[.pointer (some ⟨p, 0, none⟩), .int .i64 id] W fun e w' => e = .returned (.int .i64 (rtF F id)) ∧ Below W.heap.size W w') := fun W id hW h => vroot_any (HB.out.on hW).pg id h
    clear HZ
    -- Of, 1
    have hb1 := bel_new W1 (.cells #[.int .i64 ra, .int .i64 0, .int .i64 0] 46)
    have HL1 := hid (rdm_lit W1 [ra, 0, 0] rfl 46)
    have HB1 := hid (hb1)
    clear hb1
    go_wp2_with fail
    refine (HS.out _ HB1.out).mono ?_
    rintro e U1 ⟨v1, rfl, hO1⟩
    obtain ⟨sa1, sc1, rfl, hr1, -⟩ := hO1.rd
    have hb1 := Below.on HB1.out hO1.bel
    have CO := hid (vof_any (HB.out.on hb1).pg (by omega) _ 1 1 [[ra, 0, 0]] (HL1.out.on hO1.bel) (bts3 HRA.out bt0 bt0) (by omega) sa1 _ sc1 zs hr1)
    have HC1 := hid hb1
    clear hr1 hO1 hb1 HL1 HB1
    go_wp2_with fail
    refine CO.out.mono ?_
    rintro e V1 ⟨vv1, rfl, hP1⟩
    obtain ⟨A1, hA1⟩ : ∃ A1, A1 = ofL F zs [[ra, 0, 0]] := ⟨_, rfl⟩
    rw [← hA1] at hP1
    have hl1 : A1.length ≤ 40 := by
      rw [hA1]
      exact ofL_len HB.out.pg.ok.inv HB.out.pg.ok.nof _ _
    obtain ⟨xa1, xc1, rfl, hx1, -⟩ := hP1.rd
    obtain ⟨N1, hN1⟩ : ∃ N1, N1 = A1.length := ⟨_, rfl⟩
    rw [← hN1] at hl1 hx1
    have HA1 := hid hA1
    have HX1 := hid hx1
    have HV1 := hid (Below.on HC1.out hP1.bel)
    rw [← hN1]
    clear hx1 hP1 hA1 hN1 CO
    -- Of, 2
    have hb2 := bel_new V1 (.cells #[.int .i64 rb, .int .i64 0, .int .i64 0] 46)
    replace HX1 := hid (HX1.out.on hb2)
    have HL2 := hid (rdm_lit V1 [rb, 0, 0] rfl 46)
    have HB2 := hid (Below.on HV1.out hb2)
    clear hb2
    go_wp2_with fail
    refine (HS.out _ HB2.out).mono ?_
    rintro e U2 ⟨v2, rfl, hO2⟩
    obtain ⟨sa2, sc2, rfl, hr2, -⟩ := hO2.rd
    have hb2 := Below.on HB2.out hO2.bel
    have CO := hid (vof_any (HB.out.on hb2).pg (by omega) _ 1 1 [[rb, 0, 0]] (HL2.out.on hO2.bel) (bts3 HRB.out bt0 bt0) (by omega) sa2 _ sc2 zs hr2)
    replace HX1 := hid (HX1.out.on hO2.bel)
    have HC2 := hid hb2
    clear hr2 hO2 hb2 HL2 HB2
    go_wp2_with fail
    refine CO.out.mono ?_
    rintro e V2 ⟨vv2, rfl, hP2⟩
    obtain ⟨A2, hA2⟩ : ∃ A2, A2 = ofL F zs [[rb, 0, 0]] := ⟨_, rfl⟩
    rw [← hA2] at hP2
    have hl2 : A2.length ≤ 40 := by
      rw [hA2]
      exact ofL_len HB.out.pg.ok.inv HB.out.pg.ok.nof _ _
    obtain ⟨xa2, xc2, rfl, hx2, -⟩ := hP2.rd
    obtain ⟨N2, hN2⟩ : ∃ N2, N2 = A2.length := ⟨_, rfl⟩
    rw [← hN2] at hl2 hx2
    have HA2 := hid hA2
    have HX2 := hid hx2
    have HV2 := hid (Below.on HC2.out hP2.bel)
    replace HX1 := hid (HX1.out.on hP2.bel)
    rw [← hN2]
    clear hx2 hP2 hA2 hN2 CO
    -- Of, 3
    have hb3 := bel_new V2 (.cells #[.int .i64 ra, .int .i64 0, .int .i64 0, .int .i64 rb, .int .i64 0, .int .i64 0] 46)
    replace HX1 := hid (HX1.out.on hb3)
    replace HX2 := hid (HX2.out.on hb3)
    have HL3 := hid (rdm_lits (m := 3) V2 [[ra, 0, 0], [rb, 0, 0]] (by simp) (by simp) 46)
    have HB3 := hid (Below.on HV2.out hb3)
    clear hb3
    go_wp2_with fail
    refine (HS.out _ HB3.out).mono ?_
    rintro e U3 ⟨v3, rfl, hO3⟩
    obtain ⟨sa3, sc3, rfl, hr3, -⟩ := hO3.rd
    have hb3 := Below.on HB3.out hO3.bel
    have CO := hid (vof_any (HB.out.on hb3).pg (by omega) _ 2 2 [[ra, 0, 0], [rb, 0, 0]] (HL3.out.on hO3.bel) (bts6 HRA.out bt0 bt0 HRB.out bt0 bt0) (by omega) sa3 _ sc3 zs hr3)
    replace HX1 := hid (HX1.out.on hO3.bel)
    replace HX2 := hid (HX2.out.on hO3.bel)
    have HC3 := hid hb3
    clear hr3 hO3 hb3 HL3 HB3
    go_wp2_with fail
    refine CO.out.mono ?_
    rintro e V3 ⟨vv3, rfl, hP3⟩
    obtain ⟨A3, hA3⟩ : ∃ A3, A3 = ofL F zs [[ra, 0, 0], [rb, 0, 0]] := ⟨_, rfl⟩
    rw [← hA3] at hP3
    have hl3 : A3.length ≤ 80 := by
      rw [hA3]
      rw [ofL_two, List.length_append]; have h1 := ofL_len HB.out.pg.ok.inv HB.out.pg.ok.nof zs [ra, 0, 0]; have h2 := ofL_len HB.out.pg.ok.inv HB.out.pg.ok.nof zs [rb, 0, 0]; omega
    obtain ⟨xa3, xc3, rfl, hx3, -⟩ := hP3.rd
    obtain ⟨N3, hN3⟩ : ∃ N3, N3 = A3.length := ⟨_, rfl⟩
    rw [← hN3] at hl3 hx3
    have HA3 := hid hA3
    have HX3 := hid hx3
    have HV3 := hid (Below.on HC3.out hP3.bel)
    replace HX1 := hid (HX1.out.on hP3.bel)
    replace HX2 := hid (HX2.out.on hP3.bel)
    rw [← hN3]
    clear hx3 hP3 hA3 hN3 CO
    go_wp2
    have HB7 := hid (Below.on HBL.out HV3.out)
    have hb63 := HX1.out.small
    go_loopw [15] (fun i wr => ∃ j : Nat, i = .int .i64 j ∧ j ≤ N1 ∧ RowKit.Below V3.heap.size V3 wr) (fun i _ => N1 - (numOf i).toNat)
    case atStart => exact ⟨0, rfl, by omega, Below.refl _ _⟩
    case round =>
      obtain ⟨j, rfl, hj, hbr⟩ := hrel
      by_cases hgo : j < N1
      · have e2 : decide ((j : Int) < N1) = true := decide_eq_true (by omega)
        have e3 : (j : Int) < N1 := by omega
        obtain ⟨b1, o1, z0, z1, z2, z3, z4, z5, rfl, hl, hz, d0, d1, d2, d3, d4, d5⟩ := (HX1.out.on hbr).el6 hgo
        rw [HA1.out] at hz
        obtain ⟨hrt, hz1, t, ht⟩ := rt_at HB.out.pg.ok.inv zs _ hz
        have hrt2 : rtF F z0 = rtF F ra := hrt
        have hbW := Below.on HV3.out hbr
        have CA := hid (CR.out wr z0 hbW (HB.out.pg.ok.bof.keys _ (gt_keys ht)))
        rw [hrt2] at CA
        obtain ⟨R, hR⟩ : ∃ R, R = rtF F ra := ⟨_, rfl⟩
        have CB : Hid (∀ W, RowKit.Below wr.heap.size wr W → Calls Tryz.prog 13 #[.pointer (some ⟨p, 0, none⟩), .int .i64 ra] W fun e w' => e = .returned (.int .i64 R) ∧ Below W.heap.size W w') := fun W hW => by rw [hR]; exact CR.out W ra (Below.on hbW hW) HRA.out
        rw [← hR] at CA
        have HBR := hid hbr
        have hz1' : (z1 == 0) = false := by simpa using hz1
        have hRR : (R != R) = false := by simp
        have D1 : Hid (wr.cell? ⟨b1, o1 + j * 6 + 1, none⟩ = some (.int .i64 z1)) := d1
        clear hz hrt hrt2 hbW hR hbr ht hz1 d1 d2 d3 d4 d5
        go_wp2_with fail
        refine CA.out.mono ?_
        rintro e u2 ⟨rfl, hu2⟩
        have HU2 := hid hu2
        clear hu2 CA d0
        go_wp2_with fail
        refine (CB.out _ HU2.out).mono ?_
        rintro e u3 ⟨rfl, hu3⟩
        have hu4 := Below.on HU2.out hu3
        have d1 : u3.cell? ⟨b1, o1 + j * 6 + 1, none⟩ = some (.int .i64 z1) := by rw [hu4.cell hl]; exact D1.out
        have HU4 := hid (Below.on HBR.out hu4)
        clear hu3 hu4 CB HU2 D1 HBR
        go_wp2
        go_roundw
        case rel => exact ⟨j + 1, by go_num, by omega, HU4.out⟩
        case measure => simp [numOf]; omega
      · have e2 : decide ((j : Int) < N1) = false := decide_eq_false (by omega)
        have e3 : ¬ (j : Int) < N1 := by omega
        have HR1 := hid (HX1.out.on hbr)
        have HR2 := hid (HX2.out.on hbr)
        have HR3 := hid (HX3.out.on hbr)
        have HBF := hid (Below.on HB7.out hbr)
        have HS1 := hid (HR1.out.src (P := Tryz.prog) (t := 25) (e := 40) Tryz.underlying25)
        have HO := hid (World.ownsRow_nil wr wr.heap.size 40 6)
        clear hbr
        have HS2 : Hid (∀ W, RowKit.Below wr.heap.size wr W → Src Tryz.prog 6 25 (.slice xa2 N2 xc2) N2 (mcs A2) W) := fun W hW => (HR2.out.on hW).src (P := Tryz.prog) (t := 25) (e := 40) Tryz.underlying25
        go_wp2_with (first
          | (at_builtin; refine wpList_append_own_src _ rfl (.const (.slice none 0 0)) (.tmp 79) 25 25 rfl wr.heap.size 40 i0 (.agg #[.int .i64 0, .int .i64 0, .int .i64 0, .int .i64 0, .int .i64 0, .int .i64 0]) 6 48 Tryz.underlying25 hi hi0 hi1 hi2 rfl _ _ _ rfl HO.out _ _ _ rfl HS1.out (by simp only [maxLen]; omega) (fits48 (by omega) (by decide)) (Nat.le_refl _) ?_; intro v5 w5 o5 g5; rw [Nat.zero_add, List.nil_append] at o5; obtain ⟨a5, c5, rfl⟩ := own_shp o5; replace g5 : wr.grownBy w5 (Value.slice none 0 0).ownBlock := g5; have HB5 := hid ((kp_of_grown g5).below (Nat.le_refl _) (fun k hk => by cases hk)); have HO5 := hid o5; have HS5 := hid (HS2.out _ HB5.out); have hs5 := HB5.out.size; clear o5 g5)
          | (at_builtin; refine wpList_append_own_src _ rfl (.tmp 80) (.tmp 81) 25 25 rfl wr.heap.size 40 i0 (.agg #[.int .i64 0, .int .i64 0, .int .i64 0, .int .i64 0, .int .i64 0, .int .i64 0]) 6 48 Tryz.underlying25 hi hi0 hi1 hi2 rfl _ _ _ rfl HO5.out _ _ _ rfl HS5.out (by simp only [maxLen]; omega) (fits48 (by omega) (by decide)) hs5 ?_; intro v6 w6 o6 g6; obtain ⟨a6, c6, rfl⟩ := own_shp o6; replace g6 : w5.grownBy w6 (Value.slice a5 N1 c5).ownBlock := g6; have HO6 := hid o6; have HG6 := hid g6; clear o6 g6))
        have hb6 : RowKit.Below wr.heap.size wr w6 := HB5.out.grown HG6.out hs5 (fun k hk => (HO5.out.lt k hk).1)
        have hO6 : OwM 6 40 wr w6 (.slice a6 (N1 + N2) c6) (A1 ++ A2) := ⟨by rw [List.length_append, HR1.out.len, HR2.out.len, mcs_append]; exact HO6.out, hb6, fun y hy => by
          rcases List.mem_append.1 hy with h | h
          · exact HR1.out.size y h
          · exact HR2.out.size y h⟩
        obtain ⟨a7, c7, he7, hr7, -⟩ := hO6.rd
        have hl0 : (A1 ++ A2).length = N1 + N2 := by rw [List.length_append, HR1.out.len, HR2.out.len]
        rw [hl0] at he7 hr7
        simp only [Value.slice.injEq] at he7
        obtain ⟨rfl, -, rfl⟩ := he7
        have CS := hid (sameviews_any xa3 a6 N3 xc3 _ c6 A3 (A1 ++ A2) w6 (HR3.out.on hb6) hr7)
        have hA : A3 = A1 ++ A2 := by rw [HA3.out, HA1.out, HA2.out, ofL_two]
        rw [← hA, leqs_same] at CS
        have HB8 := hid (Below.on HBF.out hb6)
        clear hb6 hO6 hr7 hA hl0 HO6 HG6 HO5 HS5 HB5 HR1 HR2 HR3 HS1 HS2 HO
        refine CS.out.mono ?_
        rintro e w8 ⟨rfl, q8, hw8⟩
        have hb8 : RowKit.Below w.heap.size w w8 := by rw [hw8]; exact below_drewN HB8.out q8
        have CA := hid (AW.out w8 hb8)
        have HB9 := hid hb8
        clear hb8 hw8 CS
        go_wp2_with fail
        refine CA.out.mono ?_
        rintro e w9 ⟨rfl, hb9⟩
        have HF := hid (Below.on HB9.out hb9)
        clear hb9 CA
        go_wp2
        go_ret
        exact ⟨rfl, HF.out⟩

theorem walk (a : Option Addr) (n c : Nat) (ra rb : Int) (a4 : Option Addr) (n4 c4 : Nat) (zs : List (List Int)) (w : World) (hr : RdQ w a n c) (hra : (Lit.int .i64 ra).wf = true) (hrb : (Lit.int .i64 rb).wf = true) (hz : RdN 3 w a4 n4 c4 zs) (hL : laidMetH Tryz.prog Rows.viewsRootsRow.laid w) :
    Calls Tryz.prog 5 #[.slice a n c, .int .i64 ra, .int .i64 rb, .slice a4 n4 c4] w fun e w' => e = .returned (.bool true) ∧ Below w.heap.size w w' := by
  obtain ⟨es, hE⟩ := errs16 hL
  exact core a n c ra rb a4 n4 c4 zs w hr (i64_rangeQ hra) (i64_rangeQ hrb) (rdm_of_rdn (by omega) hz) es hE
end Go.Proofs.YtkjempffidndeaaGreatDoor.viewsRoots
