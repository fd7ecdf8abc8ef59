/- SeatKeys: for every slice of numbers and every slice of truths the call returns true; nothing that was there has turned. -/
import Derived.Test.YtegmolmjoiklpaaSeI
import Derived.Test.YtegmolmjoiklpaaLibI
import Derived.LaidMore
import Derived.Deep.CutBlock
import Derived.Deep.DeepCutAuto
namespace Go.Proofs.Ytegmolmjoiklpaa.seatKeys
open Go Go.RowKit

theorem want_eq (z k : Int) : lokN z k 0 0 = (if decide (k ≠ z ∧ z ≠ 0) = true then [[2, z, 0, 0]] else []) ++ (if decide (k ≠ z ∧ k ≠ 0) = true then [[1, k, 0, 0]] else []) := by
  by_cases h : z = k
  · subst h
    rw [lokN_same]
    simp
  · rw [lokN_other h, chgN]
    by_cases h1 : z = 0 <;> by_cases h2 : k = 0 <;> simp [h1, h2, Ne.symm h] <;> omega

set_option maxRecDepth 100000 in
set_option maxHeartbeats 2000000 in
theorem walk (a : Option Addr) (n c : Nat) (zs : List Int) (a1 : Option Addr) (n1 c1 : Nat) (t : Nat → Bool) (w : World) (h0 : RdI .i64 w a n c zs) (_hc : c * 8 ≤ 140737488351232) (h1 : RdB w a1 n1 c1 t) :
    Calls Try.prog 6 #[.slice a n c, .slice a1 n1 c1] w fun e w' => e = .returned (.bool true) ∧ Below w.heap.size w w' := by
  obtain ⟨i0, hi, hz0, hz1, hz2⟩ := infoSP infoNote
  have hs1 := h0.le
  have hs2 := h0.max
  have hs3 := h1.le
  have hs4 := h1.max
  simp only [maxLen] at hs2 hs4
  have H0 := hid h0
  have H1 := hid h1
  have HW := hid h0.wf
  clear h0 h1 _hc
  go_enter Try.func6, Try.ntmps6
  go_wp2_with fail
  refine (swnew w).mono ?_
  rintro e w1 ⟨rfl, hq1⟩
  have HQ1 := hid hq1
  clear hq1
  generalize hg : w.heap.size = g at *
  go_upto_block 0 with fail
  go_cut [6, 7] (fun _ _ wc => ∃ z : Int, Sw w wc g 0 0 0 z)
  case first =>
    go_wp2
    go_loopw [6, 7] (fun nw i wr => ∃ (j : Nat) (z : Int), nw = .int .i64 z ∧ i = .int .i64 j ∧ j ≤ n ∧ j ≤ 30 ∧ Sw w wr g 0 0 0 z) (fun _ i _ => n - (numOf i).toNat)
    case atStart => exact ⟨0, 0, rfl, rfl, by omega, by omega, HQ1.out⟩
    case round =>
      obtain ⟨j, z, rfl, rfl, hj, hj30, hsw⟩ := hrel
      by_cases hgo : j < n ∧ j < 30
      · obtain ⟨hgo1, hgo2⟩ := hgo
        have e1 : decide ((j : Int) < (n : Int)) = true := decide_eq_true (by omega)
        have e2 : decide ((j : Int) < 30) = true := decide_eq_true (by omega)
        have e3 : (j : Int) < (n : Int) := by omega
        obtain ⟨q, hq⟩ : ∃ q : Bool, q = (decide (j < n1) && t j) := ⟨_, rfl⟩
        have HQ := hid hq
        have HS := hid hsw
        clear hq hsw HQ1
        go_upto_region 8 with fail
        go_cut [36] from 17 to 100 (fun v wx => v = .bool q ∧ wx = wr)
        case first =>
          by_cases hj1 : j < n1
          · have e4 : decide ((j : Int) < n1) = true := decide_eq_true (by omega)
            have e5 : (j : Int) < (n1 : Int) := by omega
            obtain ⟨b, off, rfl, hb, cc⟩ := (H1.out.on HS.out.bel).pl (by omega)
            have c0 := cc j hj1
            clear cc
            have hqt : q = t j := by rw [HQ.out, decide_eq_true hj1]; rfl
            go_wp2_with fail
            go_meet
            exact ⟨by rw [hqt], rfl⟩
          · have e4 : decide ((j : Int) < n1) = false := decide_eq_false (by omega)
            have hqt : q = false := by rw [HQ.out, decide_eq_false hj1]; rfl
            go_wp2_with fail
            go_meet
            exact ⟨by rw [hqt], rfl⟩
        case rest =>
          obtain ⟨rfl, rfl⟩ := hcut
          go_upto_if 36 with fail
          go_cut [6] from 17 to 100 (fun v wx => ∃ z : Int, v = .int .i64 z ∧ Sw w wx g 0 0 0 z)
          case first =>
            cases q with
            | false =>
              go_wp2
              go_meet
              exact ⟨z, rfl, HS.out⟩
            | true =>
              have CG := hid (sgone_any HS.out.se z)
              go_wp2_with fail
              refine CG.out.mono ?_
              rintro e w2 ⟨⟨r, rfl⟩, hs2, hk2⟩
              have h2 := hid (HS.out.then hk2 hs2)
              have h3 : gon z z = 0 := if_pos rfl
              rw [h3] at h2
              clear hs2 hk2 CG h3
              go_wp2
              go_meet
              exact ⟨0, rfl, by have := h2.out; rwa [show gon 0 z = 0 by unfold gon; split <;> rfl] at this⟩
          case rest =>
            obtain ⟨z1, rfl, hsw1⟩ := hcut
            obtain ⟨bl, off, x, rfl, hbl, hx, cx⟩ := ((rz_of_rdi H0.out).on hsw1.bel).at_ hgo1
            have CP := hid (place_any x 4 (wf64 (HW.out x (List.mem_of_getElem? hx))) (by omega) (by omega))
            have hkv := plc_lt x 4 (by omega)
            obtain ⟨k, hk'⟩ : ∃ k, k = plc x 4 := ⟨_, rfl⟩
            rw [← hk'] at CP hkv
            have HS1 := hid hsw1
            clear hsw1 hk' hx HS HQ
            go_wp2_with fail
            refine (CP.out _).mono ?_
            rintro e u ⟨rfl, rfl⟩
            have CK := hid (skeys_any HS1.out.se k)
            clear CP
            go_wp2_with fail
            refine CK.out.mono ?_
            rintro e w3 ⟨v3, rfl, hR⟩
            have HS3 := hid (HS1.out.then hR.kp hR.se)
            obtain ⟨a3, c3, rfl, hd3, hl3⟩ := hR.rd
            have HD3 := hid hd3
            have HLE := hid (want_eq z1 k)
            generalize lokN z1 k 0 0 = L at *
            obtain ⟨N, hN⟩ : ∃ N, N = L.length := ⟨_, rfl⟩
            rw [← hN] at HD3 ⊢
            have HN := hid hN
            clear hR hd3 hl3 CK hN HS1 cx
            obtain ⟨q1, hq1⟩ : ∃ q1 : Bool, q1 = decide ((k : Int) ≠ z1 ∧ z1 ≠ 0) := ⟨_, rfl⟩
            obtain ⟨q2, hq2⟩ : ∃ q2 : Bool, q2 = decide ((k : Int) ≠ z1 ∧ (k : Int) ≠ 0) := ⟨_, rfl⟩
            rw [← hq1, ← hq2] at HLE
            have HQ1 := hid hq1
            have HQ2 := hid hq2
            clear hq1 hq2
            go_upto_region 14 with fail
            go_cut [54] from 17 to 100 (fun v wx => v = .bool q1 ∧ wx = w3)
            case first =>
              by_cases hkz : (k : Int) = z1
              · have e4 : ((k : Int) != z1) = false := by simpa using hkz
                have hqf : q1 = false := by rw [HQ1.out]; exact decide_eq_false (fun h => h.1 hkz)
                clear hkz
                go_wp2_with fail
                go_meet
                exact ⟨by rw [hqf], rfl⟩
              · have e4 : ((k : Int) != z1) = true := by simpa using hkz
                by_cases hb0 : z1 = 0
                · have e5 : (z1 != 0) = false := by simpa using hb0
                  have hqf : q1 = false := by rw [HQ1.out]; exact decide_eq_false (fun h => h.2 hb0)
                  clear hkz hb0
                  go_wp2_with fail
                  go_meet
                  exact ⟨by rw [hqf], rfl⟩
                · have e5 : (z1 != 0) = true := by simpa using hb0
                  have hqf : q1 = true := by rw [HQ1.out]; exact decide_eq_true ⟨hkz, hb0⟩
                  clear hkz hb0
                  go_wp2_with fail
                  go_meet
                  exact ⟨by rw [hqf], rfl⟩
            case rest =>
            obtain ⟨rfl, rfl⟩ := hcut
            obtain ⟨W3, hW3⟩ : ∃ W3, W3 = wc := ⟨_, rfl⟩
            have HW3 := hid hW3
            have HS4 : Hid (Sw w W3 g 0 0 0 k) := by rw [Hid, hW3]; exact HS3.out
            have HD4 : Hid (RdM 4 W3 a3 N c3 L) := by rw [Hid, hW3]; exact HD3.out
            obtain ⟨zs0, hzs0⟩ : ∃ zs0 : List (List Int), zs0 = if q1 = true then [[2, z1, 0, 0]] else [] := ⟨_, rfl⟩
            have hzl0 : zs0.length ≤ 1 := by rw [hzs0]; split <;> simp
            rw [← hzs0] at HLE
            have HZ0 := hid hzs0
            clear hzs0 hW3 HS3 HD3
            go_upto_if 54 with fail
            go_cut [10] from 17 to 100 (fun v wx => OwM 4 56 W3 wx v zs0)
            case first =>
              cases q1 with
              | false =>
                have hz : zs0 = [] := HZ0.out
                subst hz
                go_wp2
                go_meet
                rw [HW3.out]
                exact OwM.nil 4 _ _
              | true =>
                have hz : zs0 = [[2, z1, 0, 0]] := HZ0.out
                subst hz
                have HSR := hid (src_note wc 2 z1 0 0)
                have HOW := hid (World.ownsRow_nil (wc.alloc (.cells #[.int .i64 2, .int .i64 z1, .int .i64 0, .int .i64 0] 56)) wc.heap.size 56 4)
                have hsz2 : wc.heap.size ≤ (wc.alloc (.cells #[.int .i64 2, .int .i64 z1, .int .i64 0, .int .i64 0] 56)).heap.size := by rw [World.size_alloc]; omega
                go_wp2_with (at_builtin; refine wpList_append_own_src _ rfl (.tmp 55) (.tmp 58) 43 43 rfl wc.heap.size 56 i0 (.agg #[.int .i64 0, .int .i64 0, .int .i64 0, .int .i64 0]) 4 32 Try.underlying43 hi hz0 hz1 hz2 rfl _ _ _ rfl HOW.out _ _ _ rfl HSR.out (by simp only [maxLen]; omega) (fitsM (by omega) (by decide)) hsz2 ?_; intro v3 w4 o3 g3; have HO3 := hid o3; have HG3 := hid g3; clear o3 g3)
                go_meet
                rw [HW3.out]
                exact (OwM.nil 4 56 wc).more (o := .cells #[.int .i64 2, .int .i64 z1, .int .i64 0, .int .i64 0] 56) (by simp) HO3.out HG3.out
            case rest =>
            have HOA := hid hcut
            clear hcut
            go_upto_region 16 with fail
            go_cut [66] from 17 to 100 (fun v wx => v = .bool q2 ∧ wx = wc)
            case first =>
              by_cases hkz : (k : Int) = z1
              · have e4 : ((k : Int) != z1) = false := by simpa using hkz
                have hqf : q2 = false := by rw [HQ2.out]; exact decide_eq_false (fun h => h.1 hkz)
                clear hkz
                go_wp2_with fail
                go_meet
                exact ⟨by rw [hqf], rfl⟩
              · have e4 : ((k : Int) != z1) = true := by simpa using hkz
                by_cases hb0 : (k : Int) = 0
                · have e5 : ((k : Int) != 0) = false := by simpa using hb0
                  have hqf : q2 = false := by rw [HQ2.out]; exact decide_eq_false (fun h => h.2 hb0)
                  clear hkz hb0
                  go_wp2_with fail
                  go_meet
                  exact ⟨by rw [hqf], rfl⟩
                · have e5 : ((k : Int) != 0) = true := by simpa using hb0
                  have hqf : q2 = true := by rw [HQ2.out]; exact decide_eq_true ⟨hkz, hb0⟩
                  clear hkz hb0
                  go_wp2_with fail
                  go_meet
                  exact ⟨by rw [hqf], rfl⟩
            case rest =>
            obtain ⟨rfl, rfl⟩ := hcut
            obtain ⟨zs1, hzs1⟩ : ∃ zs1 : List (List Int), zs1 = zs0 ++ if q2 = true then [[1, (k : Int), 0, 0]] else [] := ⟨_, rfl⟩
            have hzl1 : zs1.length ≤ 2 := by rw [hzs1, List.length_append]; split <;> simp <;> omega
            rw [← hzs1] at HLE
            have HZ1 := hid hzs1
            clear hzs1
            go_upto_if 66 with fail
            go_cut [10] from 17 to 100 (fun v wx => OwM 4 56 W3 wx v zs1)
            case first =>
              cases q2 with
              | false =>
                have hz : zs1 = zs0 := by rw [HZ1.out]; simp
                go_wp2
                go_meet
                rw [hz]
                exact HOA.out
              | true =>
                have hz : zs1 = zs0 ++ [[1, (k : Int), 0, 0]] := HZ1.out
                have HSR := hid (src_note wc 1 k 0 0)
                have HOW := hid (ownsRow_below HOA.out.own (bel_nw wc (.cells #[.int .i64 1, .int .i64 k, .int .i64 0, .int .i64 0] 56)))
                have hsz2 : W3.heap.size ≤ (wc.alloc (.cells #[.int .i64 1, .int .i64 k, .int .i64 0, .int .i64 0] 56)).heap.size := by have := HOA.out.bel.size; rw [World.size_alloc]; omega
                go_wp2_with (at_builtin; refine wpList_append_own_src _ rfl (.tmp 67) (.tmp 70) 43 43 rfl W3.heap.size 56 i0 (.agg #[.int .i64 0, .int .i64 0, .int .i64 0, .int .i64 0]) 4 32 Try.underlying43 hi hz0 hz1 hz2 rfl _ _ _ rfl HOW.out _ _ _ rfl HSR.out (by simp only [maxLen]; omega) (fitsM (by omega) (by decide)) hsz2 ?_; intro v3 w4 o3 g3; have HO3 := hid o3; have HG3 := hid g3; clear o3 g3)
                go_meet
                rw [hz]
                exact HOA.out.more (o := .cells #[.int .i64 1, .int .i64 k, .int .i64 0, .int .i64 0] 56) (by simp) HO3.out HG3.out
            case rest =>
            have hL : zs1 = L := HLE.out.symm
            subst hL
            obtain ⟨b4, c4, rfl, hd4, hl4⟩ := hcut.rd
            have HS5 := hid (HS4.out.on (by have := hcut.bel; exact this))
            have HD5 := hid (HD4.out.on hcut.bel)
            have HD6 := hid hd4
            have hNl := HN.out
            rw [← hNl] at HD6 ⊢
            clear hcut hd4 hl4 HOA HS4 HD4 HW3 hNl
            go_wp2
            have hN2 : N ≤ 2 := by rw [HN.out]; exact hzl1
            go_loopw [11] (fun i wr => ∃ i2 : Nat, i = .int .i64 i2 ∧ i2 ≤ N ∧ ∃ q, wr = wc.drewN q) (fun i _ => N - (numOf i).toNat)
            case atStart => exact ⟨0, rfl, by omega, 0, rfl⟩
            case round =>
              obtain ⟨i2, rfl, hi2, qd, rfl⟩ := hrel
              by_cases hgo2 : i2 < N
              · have e6 : decide ((i2 : Int) < N) = true := decide_eq_true (by omega)
                have e7 : (i2 : Int) < N := by omega
                obtain ⟨b5, o5, z0, y1, z2, z3, rfl, _, hr5, d0, d1, d2, d3⟩ := HD5.out.el4 hgo2
                obtain ⟨b6, o6, y0', y1', y2', y3', rfl, _, hr6, f0, f1, f2, f3⟩ := HD6.out.el4 hgo2
                rw [hr5] at hr6
                cases hr6
                have hq := neqN z0 y1 z2 z3 z0 y1 z2 z3
                have hgd := neqN_guard
                rw [nteq_same] at hq
                clear hr5
                go_wp2
                go_quiet (fail)
                go_wp2
                go_roundw
                case rel => exact ⟨i2 + 1, by go_num, by omega, _, rfl⟩
                case measure => simp [numOf]; omega
              · have e6 : decide ((i2 : Int) < N) = false := decide_eq_false (by omega)
                have CF := hid (sfocus_any (HS5.out.on (below_drewN (Below.refl _ _) qd)).se)
                go_wp2_with fail
                refine CF.out.mono ?_
                rintro e w6 ⟨rfl, q6, rfl⟩
                have e8 : ((k : Int) != k) = false := by simp
                clear CF
                go_wp2
                go_roundw
                case rel => exact ⟨j + 1, k, rfl, by go_num, by omega, by omega, HS5.out.on (below_drewN (Below.refl _ _) (qd + q6))⟩
                case measure => simp [numOf]; omega
      · have HS := hid hsw
        clear hsw
        by_cases hjn : j < n
        · have e1 : decide ((j : Int) < (n : Int)) = true := decide_eq_true (by omega)
          have e2 : decide ((j : Int) < 30) = false := decide_eq_false (by omega)
          go_wp2
          go_meet
          exact ⟨z, HS.out⟩
        · have e1 : decide ((j : Int) < (n : Int)) = false := decide_eq_false (by omega)
          go_wp2
          go_meet
          exact ⟨z, HS.out⟩
  case rest =>
    obtain ⟨z, hsw⟩ := hcut
    have HS := hid hsw.bel
    clear hsw HQ1
    go_wp2_with fail
    refine (sawake_any wc).mono ?_
    rintro e w9 ⟨rfl, hb9⟩
    have HB9 := hid (Below.on HS.out hb9)
    clear hb9
    go_wp2
    go_ret
    exact ⟨rfl, by have := HB9.out; rwa [hg] at this⟩
end Go.Proofs.Ytegmolmjoiklpaa.seatKeys
