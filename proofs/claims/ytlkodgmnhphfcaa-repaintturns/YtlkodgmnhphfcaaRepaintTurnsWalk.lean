/- RepaintTurns: for all views and a number the call returns true; nothing that was there has turned. -/
import Derived.Test.YtlkodgmnhphfcaaBi
import Derived.Test.YtlkodgmnhphfcaaBf
import Derived.Test.YtlkodgmnhphfcaaBh
import Derived.Test.YtlkodgmnhphfcaaBb
import Derived.LaidMore
namespace Go.Proofs.Ytlkodgmnhphfcaa.repaintTurns
open Go Go.RowKit

set_option maxRecDepth 100000 in
set_option maxHeartbeats 4000000 in
theorem walk (a0 : Option Addr) (n0 c0 : Nat) (l0 : List (List Int)) (a1 : Option Addr) (n1 c1 : Nat) (l1 : List (List Int)) (a2 : Int) (w : World) (w0 : RdN 6 w a0 n0 c0 l0) (w1 : RdN 6 w a1 n1 c1 l1) (w2 : (Lit.int .i64 a2).wf = true) :
    Calls Try.prog 4 #[.slice a0 n0 c0, .slice a1 n1 c1, .int .i64 a2] w fun e w' => e = .returned (.bool true) ∧ Below w.heap.size w w' := by
  have HX := hid (rdm_of_rdn (by omega) w0)
  have HY := hid (rdm_of_rdn (by omega) w1)
  have HXK : Hid (∀ y ∈ l0, (vrc y).Ok) := fun y hy => vrc_ok fun z hz => i64_wf (w0.wf y hy z hz)
  have HYK : Hid (∀ y ∈ l1, (vrc y).Ok) := fun y hy => vrc_ok fun z hz => i64_wf (w1.wf y hy z hz)
  have HXL := hid w0.len
  have HYL := hid w1.len
  have hx := HX.out.small
  have hy := HY.out.small
  have HP0 : Hid (∀ u, Calls Try.prog 11 #[.int .i64 a2, .int .i64 1000] u fun e w' => e = .returned (.int .i64 (plc a2 1000 : Nat)) ∧ w' = u) := fun u => place_any a2 1000 (i64_wf w2) (by omega) (by omega) u
  have b0 := plc_lt a2 1000 (by omega)
  generalize plc a2 1000 = m0 at HP0 b0
  obtain ⟨p, hp⟩ : ∃ p, nrB l0 = p := ⟨_, rfl⟩
  obtain ⟨q, hq⟩ : ∃ q, nrB l1 = q := ⟨_, rfl⟩
  have HP := hid hp
  have HQ := hid hq
  have CN := hid (qnear_any a0 n0 c0 l0 w HX.out)
  rw [HP.out] at CN
  clear w0 w1 w2 hp hq
  go_enter Try.func4, Try.ntmps4
  go_wp2_with fail
  refine CN.out.mono ?_
  rintro e x2 ⟨rfl, hb2⟩
  have HB2 := hid hb2
  clear hb2 CN
  cases p
  · clear HX HY
    go_wp2_with fail
    refine (qawake24_any _).mono ?_
    rintro e x3 ⟨rfl, hb3⟩
    have HB3 := hid (Below.on HB2.out hb3)
    go_wp2
    go_ret
    exact ⟨rfl, HB3.out⟩
  have CM := hid (qnear_any a1 n1 c1 l1 x2 (HY.out.on HB2.out))
  rw [HQ.out] at CM
  go_wp2_with fail
  refine CM.out.mono ?_
  rintro e x3 ⟨rfl, hb3⟩
  have HB3 := hid (Below.on HB2.out hb3)
  clear hb3 CM HB2
  cases q
  · clear HX HY
    go_wp2_with fail
    refine (qawake24_any _).mono ?_
    rintro e x4 ⟨rfl, hb4⟩
    have HB4 := hid (Below.on HB3.out hb4)
    go_wp2
    go_ret
    exact ⟨rfl, HB4.out⟩
  have hn0 := nrB_len HP.out
  have hn1 := nrB_len HQ.out
  rw [HXL.out] at hn0
  rw [HYL.out] at hn1
  by_cases h5 : (5 : Int) < (n0 : Int) + (n1 : Int)
  · have t5 : decide ((5 : Int) < (n0 : Int) + (n1 : Int)) = true := decide_eq_true h5
    clear HX HY
    go_wp2_with fail
    refine (qawake24_any _).mono ?_
    rintro e x4 ⟨rfl, hb4⟩
    have HB4 := hid (Below.on HB3.out hb4)
    go_wp2
    go_ret
    exact ⟨rfl, HB4.out⟩
  have t5 : decide ((5 : Int) < (n0 : Int) + (n1 : Int)) = false := decide_eq_false h5
  have HTU : Hid (dfl (chl l1 l0 []) = dfl (chl l0 l1 [])) := ch_turn (by rw [HXL.out, HYL.out]; omega)
  have HRG : Hid (rgn (dfl (chl l0 l1 [])) = true) := rgn_iff.2 (dfl_reg _)
  have hdl := dfl_len (chl l0 l1 [])
  go_wp2_with fail
  refine (qchanged_any a0 n0 c0 l0 a1 n1 c1 l1 none 0 0 [] _ (HX.out.on HB3.out) (HY.out.on HB3.out) (RdD.nil _) HXK.out HYK.out (by omega) (by omega) (by omega) (by simp)).mono ?_
  rintro e x4 ⟨a4, c4, rfl, h4, hb4⟩
  rw [show (([] : List Dv).map ddl) = [] from rfl] at h4 ⊢
  have H4 := hid h4
  have HB4 := hid (Below.on HB3.out hb4)
  clear h4 hb4 HB3
  go_wp2_with fail
  refine (qchanged_any a1 n1 c1 l1 a0 n0 c0 l0 none 0 0 [] _ (HY.out.on HB4.out) (HX.out.on HB4.out) (RdD.nil _) HYK.out HXK.out (by omega) (by omega) (by omega) (by simp)).mono ?_
  rintro e x5 ⟨a5, c5, rfl, h5', hb5⟩
  rw [show (([] : List Dv).map ddl) = [] from rfl, HTU.out] at h5' ⊢
  have H5 := hid h5'
  have H45 := hid (H4.out.on hb5)
  have HB5 := hid (Below.on HB4.out hb5)
  clear h5' hb5 HB4 H4 HTU
  generalize dfl (chl l0 l1 []) = D at H45 H5 HRG hdl ⊢
  go_wp2_with fail
  refine (HP0.out _).mono ?_
  rintro e x6 ⟨rfl, rfl⟩
  clear HP0
  obtain ⟨s, hs⟩ : ∃ s : Int, -1 - (m0 : Int) = s := ⟨_, rfl⟩
  have hs1 : s < 0 := by omega
  have hs2 : -9223372036854775808 ≤ -1 - (m0 : Int) ∧ -1 - (m0 : Int) ≤ 9223372036854775807 := by omega
  have hbA := below_new x6 (ob ⟨0, 0, 9, 9⟩)
  have hRL := rdc_lit x6 ⟨0, 0, 9, 9⟩ ⟨by decide, by decide, by decide, by decide⟩
  rw [ob] at hbA
  dsimp only at hbA hRL
  have hD := rdd_one _ 38 (d := ⟨s, some ⟨x6.heap.size, 0, none⟩, 1, 1, [⟨0, 0, 9, 9⟩]⟩) ⟨show I64 s from ⟨by omega, by omega⟩, hRL⟩
  have hbB := Below.on hbA (bel_new _ (.cells (dvv ⟨s, some ⟨x6.heap.size, 0, none⟩, 1, 1, [⟨0, 0, 9, 9⟩]⟩) 38))
  rw [size_new] at hD
  simp only [dvv] at hD hbB
  have HD := hid hD
  have HBB := hid hbB
  have HBX := hid (Below.on HB5.out hbB)
  clear hD hbA hbB hRL
  go_wp2_with fail
  refine (qchanged_any a0 n0 c0 l0 a0 n0 c0 l0 _ 1 1 [⟨s, some ⟨x6.heap.size, 0, none⟩, 1, 1, [⟨0, 0, 9, 9⟩]⟩] _ (HX.out.on HBX.out) (HX.out.on HBX.out) HD.out HXK.out HXK.out (by omega) (by omega) (by omega) (by simp)).mono ?_
  rintro e x7 ⟨a7, c7, rfl, h7, hb7⟩
  have hb57 := Below.on HBB.out hb7
  have HB7 := hid (Below.on HBX.out hb7)
  have HX7 := hid (HX.out.on HB7.out)
  have H47 := hid (H45.out.on hb57)
  have H57 := hid (H5.out.on hb57)
  have HZ : Hid ((∀ y ∈ l0, 0 ≤ nm5 0 y) → dfl (chl l0 l0 ([(⟨s, some ⟨x6.heap.size, 0, none⟩, 1, 1, [⟨0, 0, 9, 9⟩]⟩ : Dv)].map ddl)) = []) := fun h => by
    rw [ch_same fun a ha d hd => by
      obtain rfl : d = (s, [⟨0, 0, 9, 9⟩]) := by simpa [ddl] using hd
      have := h a ha
      dsimp only
      omega]
    rfl
  generalize dfl (chl l0 l0 ([(⟨s, some ⟨x6.heap.size, 0, none⟩, 1, 1, [⟨0, 0, 9, 9⟩]⟩ : Dv)].map ddl)) = Z at HZ h7 ⊢
  clear h7 hb7 hb57 HBX HBB HD H45 H5 HB5 hs hs2 hs1 HX HY
  go_wp2
  go_loopw [10] (fun i wr => ∃ j : Nat, i = .int .i64 j ∧ j ≤ n0 ∧ (∀ y ∈ l0.take j, 0 ≤ nm5 0 y) ∧ wr = x7) (fun i _ => n0 - (numOf i).toNat)
  case atStart => exact ⟨0, rfl, by omega, by simp, rfl⟩
  case round =>
    obtain ⟨j, rfl, hj, hA, rfl⟩ := hrel
    have HA := hid hA
    clear hA
    by_cases hgo : j < n0
    · have e1 : decide ((j : Int) < n0) = true := decide_eq_true (by omega)
      have e2 : (j : Int) < n0 := by omega
      obtain ⟨b, off, z0, z1, z2, z3, z4, z5, rfl, hb, hy, d0, d1, d2, d3, d4, d5⟩ := HX7.out.el6 hgo
      have HN : Hid (0 ≤ z0 → ∀ y ∈ l0.take (j + 1), 0 ≤ nm5 0 y) := fun h y hm => by
        rw [List.take_add_one, hy] at hm
        rcases List.mem_append.1 hm with hm | hm
        · exact HA.out y hm
        · obtain rfl : y = [z0, z1, z2, z3, z4, z5] := by simpa using hm
          exact h
      clear hy hb
      by_cases hz : z0 < 0
      · have t1 : decide (z0 < 0) = true := decide_eq_true hz
        clear HN HZ HX7
        go_wp2_with fail
        refine (qawake24_any _).mono ?_
        rintro e x8 ⟨rfl, hb8⟩
        have HB8 := hid (Below.on HB7.out hb8)
        go_wp2
        go_ret
        exact ⟨rfl, HB8.out⟩
      · have t1 : decide (z0 < 0) = false := decide_eq_false hz
        have HN2 := hid (HN.out (by omega))
        clear HN
        go_wp2
        go_roundw
        case rel => exact ⟨j + 1, by go_num, by omega, HN2.out, trivial⟩
        case measure => simp [numOf]; omega
    · have e1 : decide ((j : Int) < n0) = false := decide_eq_false (by omega)
      have hZ := HZ.out (by
        have h1 := HA.out
        rwa [List.take_of_length_le (by rw [HXL.out]; omega)] at h1)
      subst hZ
      have CS := hid (samerects_any a4 a5 _ c4 _ c5 _ _ wr H47.out H57.out)
      rw [eqr_same] at CS
      go_wp2_with fail
      refine CS.out.mono ?_
      rintro e x8 ⟨rfl, k, rfl⟩
      have HB8 := hid (below_drewN HB7.out k)
      have H48 := hid (H47.out.drewN k)
      clear CS H47 H57 HB7
      have CR := hid (rregcheck_any a4 _ c4 _ _ H48.out (by omega))
      rw [HRG.out] at CR
      go_wp2_with fail
      refine CR.out.mono ?_
      rintro e x9 ⟨rfl, hb9⟩
      have HB9 := hid (Below.on HB8.out hb9)
      clear CR H48 HB8 hb9
      go_wp2_with fail
      refine (qawake24_any _).mono ?_
      rintro e x10 ⟨rfl, hb10⟩
      have HB10 := hid (Below.on HB9.out hb10)
      go_wp2
      go_ret
      exact ⟨rfl, HB10.out⟩
end Go.Proofs.Ytlkodgmnhphfcaa.repaintTurns
