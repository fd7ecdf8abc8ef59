/- PaintFolds: for every two numbers, colour, views, images and point the call returns true; nothing that was there has turned. Written by paint/mk_folds.py. -/
import Derived.Test.YtpcepgecbdjdfaaDoorBh
import Derived.Test.YtpcepgecbdjdfaaDoorBa
import Derived.LaidMore
namespace Go.Proofs.YtpcepgecbdjdfaaDoor.paintFolds
open Go Go.RowKit

theorem pto_none {l : List Rc} {gs : List Gv} {u v z z0 z1 z2 z3 z4 z5 : Int} (h : gf z1 gs = none) : pto l (gs.map gcl) u v z [z0, z1, z2, z3, z4, z5] = z := by
  rw [pto, show nm5 1 [z0, z1, z2, z3, z4, z5] = z1 from rfl, gf_imf, h]
  rfl
theorem pto_some {l : List Rc} {gs : List Gv} {u v z z0 z1 z2 z3 z4 z5 : Int} {g : Gv} (h : gf z1 gs = some g) : pto l (gs.map gcl) u v z [z0, z1, z2, z3, z4, z5] = if okD z2 z3 g.w g.h && (has ⟨z2, z3, g.w, g.h⟩ u v && inC l u v) then gD z2 z3 g.w g.l u v z else z := by
  rw [pto, show nm5 1 [z0, z1, z2, z3, z4, z5] = z1 from rfl, gf_imf, h]
  rfl
theorem pto_off {l : List Rc} {gs : List Gv} {u v z z0 z1 z2 z3 z4 z5 : Int} {g : Gv} (h : gf z1 gs = some g) (hn : ¬ (okD z2 z3 g.w g.h = true ∧ has ⟨z2, z3, g.w, g.h⟩ u v = true)) : pto l (gs.map gcl) u v z [z0, z1, z2, z3, z4, z5] = z := by
  rw [pto_some h, if_neg]
  intro h2
  rw [Bool.and_eq_true, Bool.and_eq_true] at h2
  exact hn ⟨h2.1, h2.2.1⟩
theorem pto_on {l : List Rc} {gs : List Gv} {u v z z0 z1 z2 z3 z4 z5 : Int} {g : Gv} (h : gf z1 gs = some g) (h1 : okD z2 z3 g.w g.h = true) (h2 : has ⟨z2, z3, g.w, g.h⟩ u v = true) (h3 : inC l u v = true) : pto l (gs.map gcl) u v z [z0, z1, z2, z3, z4, z5] = gD z2 z3 g.w g.l u v z := by
  rw [pto_some h, h1, h2, h3]
  rfl
theorem fold_pto {l : List Rc} {I : List Im} {V : List (List Int)} {u v b : Int} {j : Nat} {y : List Int} (h : V[j]? = some y) : (V.take (j + 1)).foldl (pto l I u v) b = pto l I u v ((V.take j).foldl (pto l I u v) b) y := by
  rw [take_snoc h, List.foldl_append]
  rfl

set_option maxRecDepth 100000 in
set_option maxHeartbeats 8000000 in
theorem walk (a0 a1 a2 : Int) (a3 : Option Addr) (n3 c3 : Nat) (l3 : List (List Int)) (a4 : Option Addr) (n4 c4 : Nat) (l4 : List Gv) (a5 a6 : Int) (w : World) (w0 : (Lit.int .i64 a0).wf = true) (w1 : (Lit.int .i64 a1).wf = true) (w2 : (Lit.int .u32 a2).wf = true) (w3 : RdN 6 w a3 n3 c3 l3) (w4 : RdG w a4 n4 c4 l4) (w5 : (Lit.int .i64 a5).wf = true) (w6 : (Lit.int .i64 a6).wf = true) (_hL : laidMetH Tryd.prog Rows.paintFoldsRow.laid w) :
    Calls Tryd.prog 5 #[.int .i64 a0, .int .i64 a1, .int .u32 a2, .slice a3 n3 c3, .slice a4 n4 c4, .int .i64 a5, .int .i64 a6] w fun e w' => e = .returned (.bool true) ∧ Below w.heap.size w w' := by
  have hc := wfu w2
  have HP0 : Hid (∀ u, Calls Tryd.prog 21 #[.int .i64 a0, .int .i64 20] u fun e w' => e = .returned (.int .i64 (plc a0 20 : Nat)) ∧ w' = u) := fun u => place_any a0 20 (wfi w0) (by omega) (by omega) u
  have HP1 : Hid (∀ u, Calls Tryd.prog 21 #[.int .i64 a1, .int .i64 20] u fun e w' => e = .returned (.int .i64 (plc a1 20 : Nat)) ∧ w' = u) := fun u => place_any a1 20 (wfi w1) (by omega) (by omega) u
  have b0 := plc_lt a0 20 (by omega)
  have b1 := plc_lt a1 20 (by omega)
  generalize plc a0 20 = m0 at *
  generalize plc a1 20 = m1 at *
  obtain ⟨W, hW⟩ : ∃ W, 1 + m0 = W := ⟨_, rfl⟩
  obtain ⟨H, hH⟩ : ∃ H, 1 + m1 = H := ⟨_, rfl⟩
  have eW : (1 : Int) + (m0 : Int) = (W : Int) := by omega
  have eH : (1 : Int) + (m1 : Int) = (H : Int) := by omega
  have hW1 : 1 ≤ W ∧ W ≤ 48 := by omega
  have hH1 : 1 ≤ H ∧ H ≤ 48 := by omega
  have HP5 : Hid (∀ u, Calls Tryd.prog 21 #[.int .i64 a5, .int .i64 (W : Nat)] u fun e w' => e = .returned (.int .i64 (plc a5 W : Nat)) ∧ w' = u) := fun u => place_any a5 W (wfi w5) (by omega) (by omega) u
  have HP6 : Hid (∀ u, Calls Tryd.prog 21 #[.int .i64 a6, .int .i64 (H : Nat)] u fun e w' => e = .returned (.int .i64 (plc a6 H : Nat)) ∧ w' = u) := fun u => place_any a6 H (wfi w6) (by omega) (by omega) u
  have b5 := plc_lt a5 W (by omega)
  have b6 := plc_lt a6 H (by omega)
  generalize plc a5 W = X at *
  generalize plc a6 H = Y at *
  have HV := hid (rdm_of_rdn (by omega) w3)
  have HVI : Hid (∀ y ∈ l3, ∀ z ∈ y, I64 z) := fun y hy z hz => wfi (w3.wf y hy z hz)
  have h3 := HV.out.small
  have h3l := hid w3.len
  have HG := hid w4
  obtain ⟨ok, hok⟩ : ∃ ok, imOk l4 = ok := ⟨_, rfl⟩
  have HOK := hid hok
  have CI := hid (images_any a4 n4 c4 l4 w w4)
  clear w0 w1 w2 w3 w4 w5 w6 _hL hok hW hH b0 b1
  go_enter Tryd.func5, Tryd.ntmps5
  go_wp2_with fail
  refine CI.out.mono ?_
  rintro e x1 ⟨v, rfl, hb1, hyes⟩
  rw [HOK.out] at hyes ⊢
  have HB1 := hid hb1
  have HY := hid hyes
  clear hb1 hyes CI
  go_wp2_with fail
  refine (HP0.out _).mono ?_
  rintro e x2 ⟨rfl, rfl⟩
  go_wp2_with fail
  refine (HP1.out _).mono ?_
  rintro e x2 ⟨rfl, rfl⟩
  clear HP0 HP1
  go_wp2_with fail
  refine (cnew_any x2 W H hW1 hH1).mono ?_
  rintro e x3 ⟨p, b, rfl, hb3, hC, hp, hb⟩
  have HB3 := hid hb3
  have HC := hid hC
  have HW3 := hid (Below.on HB1.out hb3)
  have hs2 := HB1.out.size
  clear hb3 hC
  cases ok
  · clear HY HV HVI HG
    go_wp2_with fail
    refine (pawake23_any _).mono ?_
    rintro e x5 ⟨rfl, hb5⟩
    have HB5 := hid (Below.on HW3.out hb5)
    go_wp2
    go_ret
    exact ⟨rfl, HB5.out⟩
  by_cases h12 : 12 < n3
  · have e12 : decide ((12 : Int) < n3) = true := decide_eq_true (by omega)
    clear HY HV HVI HG
    go_wp2_with fail
    refine (pawake23_any _).mono ?_
    rintro e x5 ⟨rfl, hb5⟩
    have HB5 := hid (Below.on HW3.out hb5)
    go_wp2
    go_ret
    exact ⟨rfl, HB5.out⟩
  have e12 : decide ((12 : Int) < n3) = false := decide_eq_false (by omega)
  obtain ⟨ai, ni, ci, hs, rfl, hGi, hEi, hNi⟩ := HY.out rfl
  have HGI := hid hGi
  have HEI := hid hEi
  have HNI := hid hNi
  clear hGi hEi hNi HY
  go_wp2_with fail
  refine (pall_any HC.out a2 hc a3 n3 c3 l3 (HV.out.on HW3.out) HVI.out (fun hn x hx => by
    obtain ⟨bb, oo, e3, h4, _⟩ := HV.out.pl hn
    rw [hx] at e3
    cases e3
    dsimp only
    omega) ai ni ci hs (HGI.out.on HB3.out) (HGI.out.low (fun k hk => by simp only [List.mem_cons, List.not_mem_nil, or_false] at hk; omega)) HNI.out).mono ?_
  rintro e x6 ⟨rfl, hC6, hk6⟩
  have HC6 := hid hC6
  have HW6 := hid (bel_kp HW3.out hk6 HW3.out.size (fun k hk => by simp only [List.mem_cons, List.not_mem_nil, or_false] at hk; omega))
  rw [HEI.out] at HC6
  clear hC6 hk6 HC HW3 HB3 HGI HEI HNI HB1
  obtain ⟨L, hL⟩ : ∃ L, pnc W a2 [ara W H] l3 (l4.map gcl) (List.replicate (W * H) 0) = L := ⟨_, rfl⟩
  have HAT : Hid (∀ z, z = l3.foldl (pto [ara W H] (l4.map gcl) X Y) a2 → atv W H L X Y = z) := fun z hz => by
    refine atv_at b5 b6 ?_
    rw [← hL, pnc_get b5, List.getElem?_replicate, if_pos (by exact place_lt b5 b6), Option.map_some, inC_ara hW1 hH1 b5 b6, hz]
    rfl
  rw [hL] at HC6
  have HIN := hid (inC_ara hW1 hH1 b5 b6)
  have HNI := hid (imOk_le HOK.out)
  clear hL
  go_wp2_with fail
  refine (HP5.out _).mono ?_
  rintro e x7 ⟨rfl, rfl⟩
  go_wp2_with fail
  refine (HP6.out _).mono ?_
  rintro e x7 ⟨rfl, rfl⟩
  clear HP5 HP6
  go_wp2
  go_loopw [23, 24] (fun v i wr => ∃ (j : Nat) (z : Int), v = .int .u32 z ∧ i = .int .i64 j ∧ j ≤ n3 ∧ z = (l3.take j).foldl (pto [ara W H] (l4.map gcl) X Y) a2 ∧ Col z ∧ Cv 93 wr p b W H L ∧ RowKit.Below w.heap.size w wr) (fun _ i _ => n3 - (numOf i).toNat)
  case atStart => exact ⟨0, a2, rfl, rfl, by omega, rfl, hc, HC6.out, HW6.out⟩
  case round =>
    obtain ⟨j, z, rfl, rfl, hj, hz, hcz, hC, hB⟩ := hrel
    have HZ := hid hz
    have HC := hid hC
    have HB := hid hB
    clear hz hC hB HC6 HW6
    by_cases hgo : j < n3
    · have e1 : decide ((j : Int) < n3) = true := decide_eq_true (by omega)
      have e2 : (j : Int) < n3 := by omega
      obtain ⟨b1, o1, z0, z1, z2, z3, z4, z5, rfl, hb1, hy, d0, d1, d2, d3, d4, d5⟩ := (HV.out.on HB.out).el6 hgo
      have hi2 : I64 z2 := HVI.out _ (List.mem_of_getElem? hy) z2 (by simp)
      have hi3 : I64 z3 := HVI.out _ (List.mem_of_getElem? hy) z3 (by simp)
      rw [I64] at hi2 hi3
      have hA := bel_new wr (.cells #[.int .i64 z0, .int .i64 z1, .int .i64 z2, .int .i64 z3, .int .i64 z4, .int .i64 z5] 74)
      have HA := hid hA
      have HVB := hid (bk_new wr #[.int .i64 z0, .int .i64 z1, .int .i64 z2, .int .i64 z3, .int .i64 z4, .int .i64 z5] 74)
      have HG4 := hid ((HG.out.on HB.out).on hA)
      have CF := hid (rpfind_any a4 n4 c4 l4 z1 _ HG4.out)
      have HST : Hid (∀ t, pto [ara W H] (l4.map gcl) X Y z [z0, z1, z2, z3, z4, z5] = t → t = (l3.take (j + 1)).foldl (pto [ara W H] (l4.map gcl) X Y) a2) := fun t ht => by rw [fold_pto hy, ← HZ.out, ht]
      clear hA hy
      cases hgf : gf z1 l4 with
      | none =>
        rw [hgf] at CF
        have HN := hid (HST.out z (pto_none hgf))
        rw [show fdv none = .tuple #[.agg #[.int .i64 0, .int .i64 0, .int .i64 0, .slice none 0 0], .bool false] from rfl] at CF
        clear hgf HST
        go_wp2_with fail
        refine CF.out.mono ?_
        rintro e w5 ⟨rfl, hb5⟩
        have hB5 := Below.on (Below.on HA.out hb5) (bel_new w5 (.cells #[.int .i64 0, .int .i64 0, .int .i64 0, .slice none 0 0] 47))
        have HC5 := hid (HC.out.on hB5)
        have HB5 := hid (Below.on HB.out hB5)
        clear hb5 hB5 HC HB
        go_wp2
        go_roundw
        case rel => exact ⟨j + 1, z, rfl, by go_num, by omega, HN.out, hcz, HC5.out, HB5.out⟩
        case measure => simp [numOf]; omega
      | some g =>
        rw [hgf] at CF
        have hgm := gf_mem hgf
        have hgl := HNI.out g hgm
        have HGF := hid hgf
        have hgo2 := HG4.out.ok g hgm
        have hi0 := hgo2.kw
        have hi1 := hgo2.kh
        rw [I64] at hi0 hi1
        have HGO := hid hgo2
        obtain ⟨g0, g1, g2, ga, gn, gc, gl⟩ := g
        dsimp only at hgl hi0 hi1
        rw [show fdv (some ⟨g0, g1, g2, ga, gn, gc, gl⟩) = .tuple #[.agg #[.int .i64 g0, .int .i64 g1, .int .i64 g2, .slice ga gn gc], .bool true] from rfl] at CF
        clear hgf hgm hgo2
        go_wp2_with fail
        refine CF.out.mono ?_
        rintro e w5 ⟨rfl, hb5⟩
        have hX := bel_new w5 (.cells #[.int .i64 g0, .int .i64 g1, .int .i64 g2, .slice ga gn gc] 47)
        have hI := bk_new w5 #[.int .i64 g0, .int .i64 g1, .int .i64 g2, .slice ga gn gc] 47
        have hB5 := Below.on (Below.on HA.out hb5) hX
        have hV5 := (HVB.out.on hb5).on hX
        have HC5 := hid (HC.out.on hB5)
        have HB5 := hid (Below.on HB.out hB5)
        have HP5 : Hid (RdI .u32 (w5.alloc (.cells #[.int .i64 g0, .int .i64 g1, .int .i64 g2, .slice ga gn gc] 47)) ga gn gc gl) := (HGO.out.px.on hb5).on hX
        have q2 := hV5.cell 2
        have q3 := hV5.cell 3
        have i1 := hI.cell 1
        have i2 := hI.cell 2
        have i3 := hI.cell 3
        have HOFF : Hid (¬ (okD z2 z3 g1 g2 = true ∧ has ⟨z2, z3, g1, g2⟩ X Y = true) → z = (l3.take (j + 1)).foldl (pto [ara W H] (l4.map gcl) X Y) a2) := fun h => HST.out z (pto_off HGF.out h)
        have HOF2 : Hid (¬ ((1 ≤ g1 ∧ g1 ≤ 16777216) ∧ (1 ≤ g2 ∧ g2 ≤ 16777216) ∧ (-16777216 ≤ z2 ∧ z2 ≤ 16777216) ∧ (-16777216 ≤ z3 ∧ z3 ≤ 16777216) ∧ (z2 ≤ X ∧ (X : Int) < z2 + g1) ∧ z3 ≤ Y ∧ (Y : Int) < z3 + g2) → z = (l3.take (j + 1)).foldl (pto [ara W H] (l4.map gcl) X Y) a2) := fun h => HOFF.out fun h2 => h (by
          have h3 := has_iff.1 h2.2
          have h4 := h2.1
          simp only [okD, Bool.and_eq_true, decide_eq_true_eq] at h4
          dsimp only at h3
          omega)
        clear hb5 hX hI hB5 hV5 HC HB HVB HA CF HOFF
        obtain ⟨mx, hmx⟩ : ∃ mx, max z2 z3 = mx := ⟨_, rfl⟩
        obtain ⟨mn, hmn⟩ : ∃ mn, min z2 z3 = mn := ⟨_, rfl⟩
        by_cases t1 : g1 < 1
        · have ft1 : decide (g1 < 1) = true := decide_eq_true t1
          have HN := hid (HOF2.out (by omega))
          clear HOF2 HST
          go_wp2
          go_roundw
          case rel => first | exact ⟨j + 1, z, rfl, by go_num, by omega, HN.out, hcz, HC5.out, HB5.out⟩ | exact ⟨j + 1, by go_num, by omega, HN.out, HC5.out, HB5.out⟩ | exact ⟨j + 1, by go_num, by omega, HN.out, hcz, HC5.out, HB5.out⟩
          case measure => simp [numOf]; omega
        have ft1 : decide (g1 < 1) = false := decide_eq_false t1
        by_cases t2 : 16777216 < g1
        · have ft2 : decide ((16777216 : Int) < g1) = true := decide_eq_true t2
          have HN := hid (HOF2.out (by omega))
          clear HOF2 HST
          go_wp2
          go_roundw
          case rel => first | exact ⟨j + 1, z, rfl, by go_num, by omega, HN.out, hcz, HC5.out, HB5.out⟩ | exact ⟨j + 1, by go_num, by omega, HN.out, HC5.out, HB5.out⟩ | exact ⟨j + 1, by go_num, by omega, HN.out, hcz, HC5.out, HB5.out⟩
          case measure => simp [numOf]; omega
        have ft2 : decide ((16777216 : Int) < g1) = false := decide_eq_false t2
        by_cases t3 : g2 < 1
        · have ft3 : decide (g2 < 1) = true := decide_eq_true t3
          have HN := hid (HOF2.out (by omega))
          clear HOF2 HST
          go_wp2
          go_roundw
          case rel => first | exact ⟨j + 1, z, rfl, by go_num, by omega, HN.out, hcz, HC5.out, HB5.out⟩ | exact ⟨j + 1, by go_num, by omega, HN.out, HC5.out, HB5.out⟩ | exact ⟨j + 1, by go_num, by omega, HN.out, hcz, HC5.out, HB5.out⟩
          case measure => simp [numOf]; omega
        have ft3 : decide (g2 < 1) = false := decide_eq_false t3
        by_cases t4 : 16777216 < g2
        · have ft4 : decide ((16777216 : Int) < g2) = true := decide_eq_true t4
          have HN := hid (HOF2.out (by omega))
          clear HOF2 HST
          go_wp2
          go_roundw
          case rel => first | exact ⟨j + 1, z, rfl, by go_num, by omega, HN.out, hcz, HC5.out, HB5.out⟩ | exact ⟨j + 1, by go_num, by omega, HN.out, HC5.out, HB5.out⟩ | exact ⟨j + 1, by go_num, by omega, HN.out, hcz, HC5.out, HB5.out⟩
          case measure => simp [numOf]; omega
        have ft4 : decide ((16777216 : Int) < g2) = false := decide_eq_false t4
        by_cases t5 : 16777216 < mx
        · have ft5 : decide ((16777216 : Int) < mx) = true := decide_eq_true t5
          have HN := hid (HOF2.out (by omega))
          clear HOF2 HST
          go_wp2
          go_roundw
          case rel => first | exact ⟨j + 1, z, rfl, by go_num, by omega, HN.out, hcz, HC5.out, HB5.out⟩ | exact ⟨j + 1, by go_num, by omega, HN.out, HC5.out, HB5.out⟩ | exact ⟨j + 1, by go_num, by omega, HN.out, hcz, HC5.out, HB5.out⟩
          case measure => simp [numOf]; omega
        have ft5 : decide ((16777216 : Int) < mx) = false := decide_eq_false t5
        by_cases t6 : mn < -16777216
        · have ft6 : decide (mn < (-16777216 : Int)) = true := decide_eq_true t6
          have HN := hid (HOF2.out (by omega))
          clear HOF2 HST
          go_wp2
          go_roundw
          case rel => first | exact ⟨j + 1, z, rfl, by go_num, by omega, HN.out, hcz, HC5.out, HB5.out⟩ | exact ⟨j + 1, by go_num, by omega, HN.out, HC5.out, HB5.out⟩ | exact ⟨j + 1, by go_num, by omega, HN.out, hcz, HC5.out, HB5.out⟩
          case measure => simp [numOf]; omega
        have ft6 : decide (mn < (-16777216 : Int)) = false := decide_eq_false t6
        by_cases t7 : (X : Int) < z2
        · have ft7 : decide ((X : Int) < z2) = true := decide_eq_true t7
          have HN := hid (HOF2.out (by omega))
          clear HOF2 HST
          go_wp2
          go_roundw
          case rel => first | exact ⟨j + 1, z, rfl, by go_num, by omega, HN.out, hcz, HC5.out, HB5.out⟩ | exact ⟨j + 1, by go_num, by omega, HN.out, HC5.out, HB5.out⟩ | exact ⟨j + 1, by go_num, by omega, HN.out, hcz, HC5.out, HB5.out⟩
          case measure => simp [numOf]; omega
        have ft7 : decide ((X : Int) < z2) = false := decide_eq_false t7
        by_cases t8 : z2 + g1 ≤ (X : Int)
        · have ft8 : decide (z2 + g1 ≤ (X : Int)) = true := decide_eq_true t8
          have HN := hid (HOF2.out (by omega))
          clear HOF2 HST
          go_wp2
          go_roundw
          case rel => first | exact ⟨j + 1, z, rfl, by go_num, by omega, HN.out, hcz, HC5.out, HB5.out⟩ | exact ⟨j + 1, by go_num, by omega, HN.out, HC5.out, HB5.out⟩ | exact ⟨j + 1, by go_num, by omega, HN.out, hcz, HC5.out, HB5.out⟩
          case measure => simp [numOf]; omega
        have ft8 : decide (z2 + g1 ≤ (X : Int)) = false := decide_eq_false t8
        by_cases t9 : (Y : Int) < z3
        · have ft9 : decide ((Y : Int) < z3) = true := decide_eq_true t9
          have HN := hid (HOF2.out (by omega))
          clear HOF2 HST
          go_wp2
          go_roundw
          case rel => first | exact ⟨j + 1, z, rfl, by go_num, by omega, HN.out, hcz, HC5.out, HB5.out⟩ | exact ⟨j + 1, by go_num, by omega, HN.out, HC5.out, HB5.out⟩ | exact ⟨j + 1, by go_num, by omega, HN.out, hcz, HC5.out, HB5.out⟩
          case measure => simp [numOf]; omega
        have ft9 : decide ((Y : Int) < z3) = false := decide_eq_false t9
        by_cases t10 : z3 + g2 ≤ (Y : Int)
        · have ft10 : decide (z3 + g2 ≤ (Y : Int)) = true := decide_eq_true t10
          have HN := hid (HOF2.out (by omega))
          clear HOF2 HST
          go_wp2
          go_roundw
          case rel => first | exact ⟨j + 1, z, rfl, by go_num, by omega, HN.out, hcz, HC5.out, HB5.out⟩ | exact ⟨j + 1, by go_num, by omega, HN.out, HC5.out, HB5.out⟩ | exact ⟨j + 1, by go_num, by omega, HN.out, hcz, HC5.out, HB5.out⟩
          case measure => simp [numOf]; omega
        have ft10 : decide (z3 + g2 ≤ (Y : Int)) = false := decide_eq_false t10
        have hx2 : -16777216 ≤ z2 ∧ z2 ≤ 16777216 := by omega
        have hx3 : -16777216 ≤ z3 ∧ z3 ≤ 16777216 := by omega
        obtain ⟨S, rfl⟩ : ∃ S : Nat, g1 = S := ⟨g1.toNat, by omega⟩
        obtain ⟨dy, hdy⟩ : ∃ dy : Nat, (Y : Int) - z3 = dy := ⟨((Y : Int) - z3).toNat, by omega⟩
        obtain ⟨M, hM⟩ : ∃ M, dy * S = M := ⟨_, rfl⟩
        have hMb : M ≤ 16777300 * 16777216 := by rw [← hM]; exact Nat.mul_le_mul (by omega) (by omega)
        have p1 : ((Y : Int) - z3) * (S : Int) = (M : Int) := by rw [hdy, ← hM, Int.natCast_mul]
        obtain ⟨F, hF⟩ : ∃ F : Nat, (M : Int) + X - z2 = F := ⟨((M : Int) + X - z2).toNat, by omega⟩
        have HON : Hid (∀ t, gD z2 z3 S gl X Y z = t → t = (l3.take (j + 1)).foldl (pto [ara W H] (l4.map gcl) X Y) a2) := fun t ht => HST.out t (by
          rw [pto_on HGF.out (by simp only [okD, Bool.and_eq_true, decide_eq_true_eq]; omega) (has_iff.2 (by dsimp only; omega)) HIN.out, ht])
        have hkk : kk z2 z3 S X Y = F := by
          rw [kk, p1, hF]
          rfl
        have HKK := hid hkk
        have hlg := HP5.out.len
        clear hdy hM HOF2 HST hkk
        by_cases t11 : F < gn
        · have ft11 : decide ((F : Int) < gn) = true := decide_eq_true (by omega)
          have ft12 : (F : Int) < gn := by omega
          obtain ⟨bp, op, rfl, hbp, hcp⟩ := HP5.out.plain (by omega)
          have hcF := hcp F (by omega)
          obtain ⟨o, ho⟩ : ∃ o, gl[F]? = some o := ⟨_, List.getElem?_eq_getElem (by omega)⟩
          rw [List.getD, ho, Option.getD_some] at hcF
          have hco : Col o := col_of HP5.out (List.mem_of_getElem? ho)
          have HN := hid (HON.out (ovr z o) (by rw [gD, HKK.out, ho]))
          clear HON ho hcp hlg
          go_wp2_with fail
          refine (rover_any z o hcz hco _).mono ?_
          rintro e w6 ⟨rfl, rfl⟩
          go_wp2
          go_roundw
          case rel => first | exact ⟨j + 1, ovr z o, rfl, by go_num, by omega, HN.out, ovr_bd _ _, HC5.out, HB5.out⟩ | exact ⟨j + 1, by go_num, by omega, HN.out, ovr_bd _ _, HC5.out, HB5.out⟩ | exact ⟨j + 1, by go_num, by omega, HN.out, HC5.out, HB5.out⟩
          case measure => simp [numOf]; omega
        · have ft11 : decide ((F : Int) < gn) = false := decide_eq_false (by omega)
          have HN := hid (HON.out z (by rw [gD, HKK.out, List.getElem?_eq_none (by omega)]))
          clear HON hlg
          go_wp2
          go_roundw
          case rel => first | exact ⟨j + 1, z, rfl, by go_num, by omega, HN.out, hcz, HC5.out, HB5.out⟩ | exact ⟨j + 1, by go_num, by omega, HN.out, HC5.out, HB5.out⟩ | exact ⟨j + 1, by go_num, by omega, HN.out, hcz, HC5.out, HB5.out⟩
          case measure => simp [numOf]; omega
    · have e1 : decide ((j : Int) < n3) = false := decide_eq_false (by omega)
      have hA := HAT.out z (by rw [HZ.out, List.take_of_length_le (by rw [h3l.out]; omega)])
      have HA := hid hA
      have n1 : (z == z) = true := by simp
      clear hA
      go_wp2_with fail
      refine (at_any HC.out X Y (by rw [I64]; omega) (by rw [I64]; omega)).mono ?_
      rintro e w6 ⟨rfl, hb6⟩
      rw [HA.out]
      have HB6 := hid (Below.on HB.out hb6)
      clear hb6
      go_wp2_with fail
      refine (pawake23_any _).mono ?_
      rintro e w7 ⟨rfl, hb7⟩
      have HB7 := hid (Below.on HB6.out hb7)
      go_wp2
      go_ret
      exact ⟨rfl, HB7.out⟩
end Go.Proofs.YtpcepgecbdjdfaaDoor.paintFolds
