/- ViewsMoves: a root that is moved moves all of its views, and nothing else; nothing that was there has turned. -/
import Derived.Test.YtkjempffidndeaaGreatDoorB43
namespace Go.Proofs.YtkjempffidndeaaGreatDoor.viewsMoves
open Go Go.RowKit

set_option maxRecDepth 100000 in
set_option maxHeartbeats 4000000 in
theorem core (a : Option Addr) (n c : Nat) (root x y : Int) (a4 : Option Addr) (n4 c4 : Nat) (zs : List (List Int)) (w : World) (hr : RdQ w a n c) (hroot : Bt root) (hx : Bt x) (hy : Bt y) (hz : RdM 3 w a4 n4 c4 zs) (es : List Addr) (hE : Errs w gerrs es) :
    Calls Tryz.prog 4 #[.slice a n c, .int .i64 root, .int .i64 x, .int .i64 y, .slice a4 n4 c4] w fun e w' => e = .returned (.bool true) ∧ Below w.heap.size w w' := by
  have hn4 := hz.small
  have CP := hid (play_any a n c w hr es hE)
  have AW : Hid (∀ W, RowKit.Below w.heap.size w W → Calls Tryz.prog 7 #[] W fun e w' => e = .returned (.bool true) ∧ RowKit.Below W.heap.size W w') := fun W hW => vawake_any W (fe_of (hE.below hW)) (Nat.le_trans (ng_of hE) hW.size)
  obtain ⟨M, hM⟩ : ∃ M : Int, M = (plc x 1000 : Nat) := ⟨_, rfl⟩
  obtain ⟨N, hN⟩ : ∃ N : Int, N = (plc y 1000 : Nat) := ⟨_, rfl⟩
  have hM0 : 0 ≤ M ∧ M < 1000 := by have := plc_lt x 1000 (by omega); omega
  have hN0 : 0 ≤ N ∧ N < 1000 := by have := plc_lt y 1000 (by omega); omega
  have CX : Hid (∀ u : World, Calls Tryz.prog 16 #[.int .i64 x, .int .i64 1000] u fun e w' => e = .returned (.int .i64 M) ∧ w' = u) := fun u => by rw [hM]; exact place_any x 1000 hx (by omega) (by omega) u
  have CY : Hid (∀ u : World, Calls Tryz.prog 16 #[.int .i64 y, .int .i64 1000] u fun e w' => e = .returned (.int .i64 N) ∧ w' = u) := fun u => by rw [hN]; exact place_any y 1000 hy (by omega) (by omega) u
  have HZ := hid hz
  have HRT := hid hroot
  clear hr hx hy hz hE hM hN hroot
  go_enter Tryz.func4, Tryz.ntmps4
  go_wp2_with fail
  refine CP.out.mono ?_
  rintro e W1 ⟨p, q, F, ok, rfl, hB⟩
  have HB := hid hB
  have HBL := hid hB.bel
  clear hB CP
  have away : (ok = false ∨ (ok = true ∧ ¬ n4 ≤ 30)) ∨ (ok = true ∧ n4 ≤ 30) := by
    cases ok
    · exact .inl (.inl rfl)
    · rcases Nat.lt_or_ge 30 n4 with h | h
      · exact .inl (.inr ⟨rfl, by omega⟩)
      · exact .inr ⟨rfl, h⟩
  rcases away with h | ⟨rfl, hn30⟩
  · have CA := hid (AW.out W1 HBL.out)
    rcases h with rfl | ⟨rfl, hn⟩
    · clear HZ
      go_wp2_with fail
      refine CA.out.mono ?_
      rintro e W2 ⟨rfl, hb2⟩
      have HF := hid (Below.on HBL.out hb2)
      clear hb2 CA
      go_wp2
      go_ret
      exact ⟨rfl, HF.out⟩
    · have e1 : decide ((30 : Int) < (n4 : Int)) = true := decide_eq_true (by omega)
      clear HZ
      go_wp2_with fail
      refine CA.out.mono ?_
      rintro e W2 ⟨rfl, hb2⟩
      have HF := hid (Below.on HBL.out hb2)
      clear hb2 CA
      go_wp2
      go_ret
      exact ⟨rfl, HF.out⟩
  · have e1 : decide ((30 : Int) < (n4 : Int)) = false := decide_eq_false (by omega)
    have HS : Hid (∀ W, RowKit.Below W1.heap.size W1 W → Calls Tryz.prog 9 #[.slice a4 n4 c4] W fun e w' => ∃ v, e = .returned v ∧ OwM 3 67 W w' v zs) := fun W hW => sizes_any a4 n4 c4 zs W (HZ.out.on (Below.on HBL.out hW)) hn30
    clear HZ
    go_wp2_with fail
    refine (CX.out _).mono ?_
    rintro e u1 ⟨rfl, rfl⟩
    go_wp2_with fail
    refine (CY.out _).mono ?_
    rintro e u2 ⟨rfl, rfl⟩
    -- the root where it is
    have hb2 := bel_new u2 (.cells #[.int .i64 root, .int .i64 0, .int .i64 0] 46)
    have HL2 := hid (rdm_lit u2 [root, 0, 0] rfl 46)
    have HB2 := hid hb2
    clear hb2 CX CY
    go_wp2_with fail
    refine (HS.out _ HB2.out).mono ?_
    rintro e W3 ⟨v3, rfl, hO3⟩
    obtain ⟨a3, c3, rfl, hr3, -⟩ := hO3.rd
    have hb3 := Below.on HB2.out hO3.bel
    have CO := hid (vof_any (HB.out.on hb3).pg (by omega) _ 1 1 [[root, 0, 0]] (HL2.out.on hO3.bel) (bts3 HRT.out bt0 bt0) (by omega) a3 _ c3 zs hr3)
    have HB3 := hid hb3
    clear hr3 hO3 hb3 HL2 HB2
    go_wp2_with fail
    refine CO.out.mono ?_
    rintro e W4 ⟨v4, rfl, hO4⟩
    have hb4 := Below.on HB3.out hO4.bel
    obtain ⟨A, hA⟩ : ∃ A, A = ofL F zs [[root, 0, 0]] := ⟨_, rfl⟩
    rw [← hA] at hO4
    obtain ⟨a5, c5, rfl, hr5, -⟩ := hO4.rd
    have HA := hid hA
    have HR5 := hid hr5
    have HB4 := hid hb4
    clear hO4 hr5 hb4 hA CO HB3
    -- the root moved
    have hb5 := bel_new W4 (.cells #[.int .i64 root, .int .i64 M, .int .i64 N] 46)
    have HL5 := hid (rdm_lit W4 [root, M, N] rfl 46)
    have HB5 := hid (Below.on HB4.out hb5)
    have HN5 := hid hb5
    clear hb5
    go_wp2_with fail
    refine (HS.out _ HB5.out).mono ?_
    rintro e W6 ⟨v6, rfl, hO6⟩
    obtain ⟨a6, c6, rfl, hr6, -⟩ := hO6.rd
    have hb6 := Below.on HB5.out hO6.bel
    have CO := hid (vof_any (HB.out.on hb6).pg (by omega) _ 1 1 [[root, M, N]] (HL5.out.on hO6.bel) (bts3 HRT.out ⟨by omega, by omega⟩ ⟨by omega, by omega⟩) (by omega) a6 _ c6 zs hr6)
    have HB6 := hid hb6
    have HN6 := hid (Below.on HN5.out hO6.bel)
    clear hr6 hO6 hb6 HL5 HB5 HN5
    go_wp2_with fail
    refine CO.out.mono ?_
    rintro e W7 ⟨v7, rfl, hO7⟩
    obtain ⟨B, hBB⟩ : ∃ B, B = ofL F zs [[root, M, N]] := ⟨_, rfl⟩
    rw [← hBB] at hO7
    obtain ⟨a8, c8, rfl, hr8, -⟩ := hO7.rd
    have HR8 := hid hr8
    have HRA := hid (HR5.out.on (Below.on HN6.out hO7.bel))
    have HB7 := hid (Below.on HBL.out (Below.on HB6.out hO7.bel))
    have HAB : Hid (∀ (i : Nat) (z0 z1 z2 z3 z4 z5 : Int), A[i]? = some [z0, z1, z2, z3, z4, z5] → B[i]? = some [z0, z1, z2 + M, z3 + N, z4, z5] ∧ -687865856 ≤ z2 ∧ z2 ≤ 687865856 ∧ -687865856 ≤ z3 ∧ z3 ≤ 687865856) := fun i z0 z1 z2 z3 z4 z5 h => by
      rw [HA.out] at h
      rw [hBB]
      exact mov_at HB.out.pg.ok.szf zs root hM0.1 hM0.2 hN0.1 hN0.2 h
    have hlen : B.length = A.length := by rw [hBB, HA.out]; exact mov_len _ _ _ _ _
    obtain ⟨NA, hNA⟩ : ∃ NA, NA = A.length := ⟨_, rfl⟩
    rw [hlen] at HR8
    rw [← hNA] at HR8 HRA
    have hNA63 := HRA.out.small
    rw [hlen, ← hNA]
    clear hr8 hO7 hBB hlen hNA CO HB6 HN6 HR5 HB4
    go_wp2
    go_loopw [18] (fun i wr => ∃ j : Nat, i = .int .i64 j ∧ j ≤ NA ∧ RowKit.Below W7.heap.size W7 wr) (fun i _ => NA - (numOf i).toNat)
    case atStart => exact ⟨0, rfl, by omega, Below.refl _ _⟩
    case round =>
      obtain ⟨j, rfl, hj, hbr⟩ := hrel
      by_cases hgo : j < NA
      · have e2 : decide ((j : Int) < NA) = true := decide_eq_true (by omega)
        have e3 : (j : Int) < NA := by omega
        obtain ⟨b1, o1, z0, z1, z2, z3, z4, z5, rfl, hl1, hz, d0, d1, d2, d3, d4, d5⟩ := (HRA.out.on hbr).el6 hgo
        obtain ⟨b2, o2, y0, y1, y2, y3, y4, y5, rfl, hl2, hy, f0, f1, f2, f3, f4, f5⟩ := (HR8.out.on hbr).el6 hgo
        obtain ⟨hm, h1, h2, h3, h4⟩ := HAB.out j _ _ _ _ _ _ hz
        rw [hy] at hm
        cases hm
        have hk := bk_new wr #[.int .i64 z0, .int .i64 z1, .int .i64 (z2 + M), .int .i64 (z3 + N), .int .i64 z4, .int .i64 z5] 40
        have hbn := bel_new wr (.cells #[.int .i64 z0, .int .i64 z1, .int .i64 (z2 + M), .int .i64 (z3 + N), .int .i64 z4, .int .i64 z5] 40)
        obtain ⟨V, hV⟩ : ∃ V, V = wr.alloc (.cells #[.int .i64 z0, .int .i64 z1, .int .i64 (z2 + M), .int .i64 (z3 + N), .int .i64 z4, .int .i64 z5] 40) := ⟨_, rfl⟩
        rw [← hV] at hk hbn
        have k0 := hk.cell 0
        have k1 := hk.cell 1
        have k2 := hk.cell 2
        have k3 := hk.cell 3
        have k4 := hk.cell 4
        have k5 := hk.cell 5
        have g0 : V.cell? ⟨b2, o2 + j * 6, none⟩ = some (.int .i64 z0) := by rw [hbn.cell hl2]; exact f0
        have g1 : V.cell? ⟨b2, o2 + j * 6 + 1, none⟩ = some (.int .i64 z1) := by rw [hbn.cell hl2]; exact f1
        have g2 : V.cell? ⟨b2, o2 + j * 6 + 2, none⟩ = some (.int .i64 (z2 + M)) := by rw [hbn.cell hl2]; exact f2
        have g3 : V.cell? ⟨b2, o2 + j * 6 + 3, none⟩ = some (.int .i64 (z3 + N)) := by rw [hbn.cell hl2]; exact f3
        have g4 : V.cell? ⟨b2, o2 + j * 6 + 4, none⟩ = some (.int .i64 z4) := by rw [hbn.cell hl2]; exact f4
        have g5 : V.cell? ⟨b2, o2 + j * 6 + 5, none⟩ = some (.int .i64 z5) := by rw [hbn.cell hl2]; exact f5
        have HV := hid hV
        have HBN := hid (Below.on hbr hbn)
        clear hy f0 f1 f2 f3 f4 f5 hV hbn hz hk
        go_upto_region 14 with fail
        rw [← HV.out]
        have hg := neqM6_guard
        have hn0 := neqM6 z0 z1 (z2 + M) (z3 + N) z4 z5 z0 z1 (z2 + M) (z3 + N) z4 z5
        rw [show leq [z0, z1, z2 + M, z3 + N, z4, z5] [z0, z1, z2 + M, z3 + N, z4, z5] = true from decide_eq_true rfl] at hn0
        clear d0 d1 d2 d3 d4 d5 HV
        go_wp2
        go_quiet (fail)
        go_wp2
        go_roundw
        case rel => exact ⟨j + 1, by go_num, by omega, below_drewN HBN.out _⟩
        case measure => simp [numOf]; omega
      · have e2 : decide ((j : Int) < NA) = false := decide_eq_false (by omega)
        have e3 : ¬ (j : Int) < NA := by omega
        have HBF := hid (Below.on HB7.out hbr)
        have CA := hid (AW.out wr HBF.out)
        clear hbr
        go_wp2_with fail
        refine CA.out.mono ?_
        rintro e W9 ⟨rfl, hb9⟩
        have HF := hid (Below.on HBF.out hb9)
        clear hb9 CA
        go_wp2
        go_ret
        exact ⟨rfl, HF.out⟩

theorem walk (a : Option Addr) (n c : Nat) (root x y : Int) (a4 : Option Addr) (n4 c4 : Nat) (zs : List (List Int)) (w : World) (hr : RdQ w a n c) (hroot : (Lit.int .i64 root).wf = true) (hx : (Lit.int .i64 x).wf = true) (hy : (Lit.int .i64 y).wf = true) (hz : RdN 3 w a4 n4 c4 zs) (hL : laidMetH Tryz.prog Rows.viewsMovesRow.laid w) :
    Calls Tryz.prog 4 #[.slice a n c, .int .i64 root, .int .i64 x, .int .i64 y, .slice a4 n4 c4] w fun e w' => e = .returned (.bool true) ∧ Below w.heap.size w w' := by
  obtain ⟨es, hE⟩ := errs16 hL
  exact core a n c root x y a4 n4 c4 zs w hr (i64_rangeQ hroot) (i64_rangeQ hx) (i64_rangeQ hy) (rdm_of_rdn (by omega) hz) es hE
end Go.Proofs.YtkjempffidndeaaGreatDoor.viewsMoves
