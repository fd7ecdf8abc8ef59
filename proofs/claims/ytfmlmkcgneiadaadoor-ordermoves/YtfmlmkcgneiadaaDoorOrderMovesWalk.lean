/- OrderMoves: for every three numbers the call returns true; nothing that was there has turned. -/
import Derived.Test.YtfmlmkcgneiadaaDoorOrdI
import Derived.Test.YtfmlmkcgneiadaaDoorOrdJ
import Derived.Test.YtfmlmkcgneiadaaDoorLibP
namespace Go.Proofs.YtfmlmkcgneiadaaDoor.orderMoves
open Go Go.RowKit

theorem wfi {z : Int} (h : (Lit.int .i64 z).wf = true) : -9223372036854775808 ≤ z ∧ z ≤ 9223372036854775807 := by simpa [Lit.wf, IntKind.min, IntKind.max, IntKind.signed, IntKind.bits] using h

set_option maxRecDepth 100000 in
set_option maxHeartbeats 4000000 in
theorem core (a0 a1 a2 : Int) (w : World) (w0 : (Lit.int .i64 a0).wf = true) (w1 : (Lit.int .i64 a1).wf = true) (w2 : (Lit.int .i64 a2).wf = true) (es : List Addr) (hE : Errs w gerrs es) :
    Calls Tryd.prog 4 #[.int .i64 a0, .int .i64 a1, .int .i64 a2] w fun e w' => e = .returned (.bool true) ∧ Below w.heap.size w w' := by
  obtain ⟨i0, hi, hz0, hz1, hz2⟩ := infoZp
  obtain ⟨p, hp, hP⟩ := pl_of hE
  have HP : Hid (∀ u, Below w.heap.size w u → Pl u p) := fun u hu => hP.on hu
  have HE : Hid (∀ u, Below w.heap.size w u → Errs u gerrs es) := fun u hu => hE.below hu
  have HP0 : Hid (∀ u, Calls Tryd.prog 19 #[.int .i64 a0, .int .i64 20] u fun e w' => e = .returned (.int .i64 (plc a0 20 : Nat)) ∧ w' = u) := fun u => place_any a0 20 (wfi w0) (by omega) (by omega) u
  have b0 := plc_lt a0 20 (by omega)
  generalize plc a0 20 = m0 at *
  obtain ⟨k, hk⟩ : ∃ k, 2 + m0 = k := ⟨_, rfl⟩
  have ek : (2 : Int) + (m0 : Int) = (k : Int) := by omega
  have hk2 : 2 ≤ k ∧ k ≤ 22 := by omega
  have HP1 := hid (fun u => place_any a1 k (wfi w1) (by omega) (by omega) u)
  have HP2 := hid (fun u => place_any a2 k (wfi w2) (by omega) (by omega) u)
  have b1 := plc_lt a1 k (by omega)
  have b2 := plc_lt a2 k (by omega)
  generalize plc a1 k = m1 at *
  generalize plc a2 k = m2 at *
  obtain ⟨i, hi1⟩ : ∃ i : Int, 1 + (m1 : Int) = i := ⟨_, rfl⟩
  obtain ⟨j, hj1⟩ : ∃ j : Int, 1 + (m2 : Int) = j := ⟨_, rfl⟩
  have bi : 1 ≤ i ∧ i ≤ k := by omega
  have bj : 1 ≤ j ∧ j ≤ k := by omega
  clear w0 w1 w2 hp hP hE hk
  go_enter Tryd.func4, Tryd.ntmps4
  go_wp2_with fail
  refine (HP0.out _).mono ?_
  rintro e x1 ⟨rfl, rfl⟩
  go_wp2
  go_loopw [8, 9] (fun v i wr => ∃ m : Nat, i = .int .i64 ((m : Int) + 1) ∧ m ≤ k ∧ OwZ x1 wr v (iot m)) (fun _ i _ => (k : Nat) + 1 - (numOf i).toNat)
  case atStart => exact ⟨0, rfl, by omega, OwZ.nil x1⟩
  case round =>
    obtain ⟨m, rfl, hm, ho⟩ := hrel
    by_cases hgo : m < k
    · have e1 : decide ((m : Int) + 1 ≤ k) = true := decide_eq_true (by omega)
      have HO := hid ho
      have HN : Hid (∀ v v' u, OwZ x1 wr v (iot m) → u.ownsRow x1.heap.size 3 1 v' (m + 1) (ic (iot m) ++ ic [(m : Int) + 1]) → (wr.alloc (.cells #[.int .i64 ((m : Int) + 1)] 3)).grownBy u v.ownBlock → OwZ x1 u v' (iot (m + 1))) := fun v v' u hv o g => by
        rw [iot_succ]
        refine (hv.alloc _).grown (k := [(m : Int) + 1]) rfl ?_ g
        rw [iot_length]
        exact o
      have HS := hid (srcLit wr ((m : Int) + 1))
      have HW := hid (ho.alloc (.cells #[.int .i64 ((m : Int) + 1)] 3)).own
      rw [iot_length] at HW
      have hws : x1.heap.size ≤ (wr.alloc (.cells #[.int .i64 ((m : Int) + 1)] 3)).heap.size := by rw [World.size_alloc]; have := ho.bel.size; omega
      clear ho
      go_wp2_with (at_builtin; refine wpList_append_own_src _ rfl (.tmp 28) (.tmp 30) 22 22 rfl x1.heap.size 3 i0 (.int .i64 0) 1 8 Tryd.underlying22 hi hz0 hz1 hz2 rfl _ _ _ rfl HW.out _ _ _ rfl HS.out (by simp only [maxLen]; omega) (fitsZ (by omega)) hws ?_; intro v3 w3 o3 g3; have HZ := hid (HN.out _ _ _ HO.out o3 g3); clear o3 g3)
      go_roundw
      case rel => exact ⟨m + 1, by go_num, by omega, HZ.out⟩
      case measure => simp [numOf]; omega
    · have e1 : decide ((m : Int) + 1 ≤ k) = false := decide_eq_false (by omega)
      obtain rfl : m = k := by omega
      obtain ⟨aR, cR, rfl, hr, -⟩ := ho.rd
      rw [iot_length] at hr ⊢
      have S0 : Hid (Sty x1 wr [(aR, m, cR, iot m)]) := ⟨fun x hx => by
        simp only [List.mem_singleton] at hx
        subst hx
        exact hr, ho.bel⟩
      clear ho hr
      go_wp2_with fail
      refine (HP1.out _).mono ?_
      rintro e x2 ⟨rfl, rfl⟩
      go_wp2_with fail
      refine (HP2.out _).mono ?_
      rintro e x3 ⟨rfl, rfl⟩
      have hn1 : m ≤ 1000000 := by omega
      go_wp2_with fail
      clear hi1 hj1 ek HP0 HP1 HP2 b0 b1 b2 hgo e1
      by_cases hij : i = j
      · subst hij
        have e0 : (i == i) = true := by simp
        refine (above_any _ _ _ _ i i _ p (HP.out _ S0.out.bel) (S0.out.rd (aR, m, cR, iot m) (by simp)) hn1).mono ?_
        rintro e x4 h1
        rw [mv_one] at h1
        obtain ⟨rfl, hb1⟩ := h1
        have S1 := hid (S0.out.on hb1)
        clear hb1 S0
        go_wp2_with fail
        refine (below_any _ _ _ _ i i _ p (HP.out _ S1.out.bel) (S1.out.rd (aR, m, cR, iot m) (by simp)) hn1).mono ?_
        rintro e x5 h1
        rw [mv_one] at h1
        obtain ⟨rfl, hb1⟩ := h1
        have S2 := hid (S1.out.on hb1)
        clear hb1 S1
        go_wp2_with fail
        refine (awake_any _ es (HE.out _ S2.out.bel)).mono ?_
        rintro e x6 ⟨rfl, hb6⟩
        have HB := hid (Below.on S2.out.bel hb6)
        clear S2 hb6
        go_wp2
        go_ret
        exact ⟨rfl, HB.out⟩
      · obtain ⟨D, X, Y, hM⟩ := mv_any m i j bi bj hij
        have HM := hid hM
        have e0 : (i == j) = false := beq_false_of_ne hij
        have HXL := hid hM.lx
        have HYL := hid hM.ly
        clear hM hij
        refine (above_any _ _ _ _ i j _ p (HP.out _ S0.out.bel) (S0.out.rd (aR, m, cR, iot m) (by simp)) hn1).mono ?_
        rintro e x4 h1
        rw [HM.out.up] at h1
        obtain ⟨v4, rfl, ho1⟩ := h1
        obtain ⟨a4, c4, rfl, hr1, -⟩ := ho1.rd
        rw [HXL.out] at hr1 ⊢
        have S1 := hid (S0.out.add ho1.bel hr1)
        clear ho1 hr1 S0
        go_wp2_with fail
        refine (below_any _ _ _ _ i j _ p (HP.out _ S1.out.bel) (S1.out.rd (aR, m, cR, iot m) (by simp)) hn1).mono ?_
        rintro e x5 h1
        rw [HM.out.down] at h1
        obtain ⟨v5, rfl, ho1⟩ := h1
        obtain ⟨a5, c5, rfl, hr1, -⟩ := ho1.rd
        rw [HYL.out] at hr1 ⊢
        have S2 := hid (S1.out.add ho1.bel hr1)
        clear ho1 hr1 S1
        go_wp2_with fail
        refine (above_any _ _ _ _ i j _ p (HP.out _ S2.out.bel) (S2.out.rd (a5, m, c5, Y) (by simp)) hn1).mono ?_
        rintro e x6 h1
        rw [HM.out.again] at h1
        obtain ⟨v6, rfl, ho1⟩ := h1
        obtain ⟨a6, c6, rfl, hr1, -⟩ := ho1.rd
        rw [HXL.out] at hr1 ⊢
        have S3 := hid (S2.out.add ho1.bel hr1)
        clear ho1 hr1 S2
        obtain ⟨L, hL⟩ : ∃ L, L = D ++ [i] := ⟨_, rfl⟩
        have hLl : L.length = m := by rw [hL, List.length_append, List.length_singleton, HM.out.ld]
        have hLi : L[m - 1]? = some i := by
          rw [hL, List.getElem?_append_right (by have := HM.out.ld; omega)]
          have : m - 1 - D.length = 0 := by have := HM.out.ld; omega
          rw [this]
          rfl
        have HLi := hid hLi
        have HLl := hid hLl
        have HL := hid hL
        clear hLi hLl hL
        go_wp2_with fail
        refine (top_any _ _ _ _ i _ p (HP.out _ S3.out.bel) (S3.out.rd (aR, m, cR, iot m) (by simp)) hn1).mono ?_
        rintro e x7 h1
        rw [HM.out.d, ← HL.out] at h1
        obtain ⟨a7, c7, rfl, hr1, hb1⟩ := owz_rd h1
        rw [HLl.out] at hr1 ⊢
        have S4 := hid (S3.out.add hb1 hr1)
        clear h1 hr1 hb1 S3 HL
        go_wp2_with fail
        refine (samez_any _ _ _ _ _ _ X X _ (S4.out.rd (a4, m, c4, X) (by simp)) (S4.out.rd (a6, m, c6, X) (by simp))).mono ?_
        rintro e x8 ⟨rfl, q8, rfl⟩
        rw [zeq_same]
        have S5 := hid (S4.out.drewN q8)
        clear S4
        generalize x7.drewN q8 = x8 at *
        go_wp2_with fail
        refine (drop_any _ _ _ _ i _ p (HP.out _ S5.out.bel) (S5.out.rd (a4, m, c4, X) (by simp)) hn1).mono ?_
        rintro e x9 h1
        rw [HM.out.dx] at h1
        obtain ⟨a9, c9, rfl, hr1, hb1⟩ := owz_rd h1
        have S6 := hid (S5.out.add hb1 hr1)
        clear h1 hr1 hb1 S5
        go_wp2_with fail
        refine (drop_any _ _ _ _ i _ p (HP.out _ S6.out.bel) (S6.out.rd (aR, m, cR, iot m) (by simp)) hn1).mono ?_
        rintro e x10 h1
        rw [HM.out.d] at h1
        obtain ⟨a10, c10, rfl, hr1, hb1⟩ := owz_rd h1
        have S7 := hid (S6.out.add hb1 hr1)
        clear h1 hr1 hb1 S6
        go_wp2_with fail
        refine (samez_any _ _ _ _ _ _ D D _ (S7.out.rd (a9, D.length, c9, D) (by simp)) (S7.out.rd (a10, D.length, c10, D) (by simp))).mono ?_
        rintro e x11 ⟨rfl, q11, rfl⟩
        rw [zeq_same]
        have S8 := hid (S7.out.drewN q11)
        clear S7
        generalize x10.drewN q11 = x11 at *
        go_wp2_with fail
        refine (drop_any _ _ _ _ i _ p (HP.out _ S8.out.bel) (S8.out.rd (a5, m, c5, Y) (by simp)) hn1).mono ?_
        rintro e x12 h1
        rw [HM.out.dy] at h1
        obtain ⟨a12, c12, rfl, hr1, hb1⟩ := owz_rd h1
        have S9 := hid (S8.out.add hb1 hr1)
        clear h1 hr1 hb1 S8
        go_wp2_with fail
        refine (drop_any _ _ _ _ i _ p (HP.out _ S9.out.bel) (S9.out.rd (aR, m, cR, iot m) (by simp)) hn1).mono ?_
        rintro e x13 h1
        rw [HM.out.d] at h1
        obtain ⟨a13, c13, rfl, hr1, hb1⟩ := owz_rd h1
        have S10 := hid (S9.out.add hb1 hr1)
        clear h1 hr1 hb1 S9
        go_wp2_with fail
        refine (samez_any _ _ _ _ _ _ D D _ (S10.out.rd (a12, D.length, c12, D) (by simp)) (S10.out.rd (a13, D.length, c13, D) (by simp))).mono ?_
        rintro e x14 ⟨rfl, q14, rfl⟩
        rw [zeq_same]
        have S11 := hid (S10.out.drewN q14)
        clear S10
        generalize x13.drewN q14 = x14 at *
        have HXR := hid (S11.out.rd (a4, m, c4, X) (by simp))
        have HYR := hid (S11.out.rd (a5, m, c5, Y) (by simp))
        have HTR := hid (S11.out.rd (a7, m, c7, L) (by simp))
        have HBB := hid S11.out.bel
        have HXS := hid HM.out.xs
        have HYS := hid HM.out.ys
        have HNN := hid HM.out.no
        clear S11 HM
        go_wp2
        go_loopw [19] (fun i wr => ∃ q : Nat, i = .int .i64 q ∧ q ≤ m ∧ wr = x14) (fun i _ => m - (numOf i).toNat)
        case atStart => exact ⟨0, rfl, by omega, rfl⟩
        case round =>
          obtain ⟨q, rfl, hq, rfl⟩ := hrel
          by_cases hgo : q < m
          · have e1 : decide ((q : Int) < m) = true := decide_eq_true (by omega)
            have e2 : (q : Int) < m := by omega
            obtain ⟨bx, ox, xq, rfl, _, hx, cx⟩ := HXR.out.at_ hgo
            obtain ⟨bz, oz, yq, rfl, _, hy, cy⟩ := HYR.out.at_ hgo
            have HFX : Hid ((xq == j) = true → q + 1 < m ∧ wr.cell? ⟨bx, ox + (q + 1), none⟩ = some (.int .i64 i)) := fun h => by
              rw [beq_iff_eq] at h
              subst h
              obtain ⟨h1, h2⟩ := HXS.out q hx
              obtain ⟨b', o', z, e, _, hz, cz⟩ := HXR.out.at_ h1
              cases e
              rw [h2] at hz
              cases hz
              exact ⟨h1, cz⟩
            have HFY : Hid ((yq == j) = true → ∃ r, q = r + 1 ∧ wr.cell? ⟨bz, oz + r, none⟩ = some (.int .i64 i)) := fun h => by
              rw [beq_iff_eq] at h
              subst h
              obtain ⟨h1, h2⟩ := HYS.out q hy
              obtain ⟨b', o', z, e, _, hz, cz⟩ := HYR.out.at_ (j := q - 1) (by omega)
              cases e
              rw [h2] at hz
              cases hz
              exact ⟨q - 1, by omega, cz⟩
            have HNO : Hid ((xq == j) = true → (yq == j) = true → False) := fun h1 h2 => by
              rw [beq_iff_eq] at h1 h2
              rw [h1] at hx
              rw [h2] at hy
              exact HNN.out q hx hy
            clear hx hy
            cases bx1 : (xq == j) with
            | false =>
              cases by1 : (yq == j) with
              | false =>
                clear HFX HFY HNO
                go_wp2
                go_roundw
                case rel => exact ⟨q + 1, by go_num, by omega, trivial⟩
                case measure => simp [numOf]; omega
              | true =>
                obtain ⟨r, rfl, cr⟩ := HFY.out by1
                clear HFX HFY HNO
                have e5 : ((r + 1 : Nat) : Int) - 1 = (r : Int) := by omega
                go_wp2
                go_roundw
                case rel => exact ⟨r + 1 + 1, by go_num, by omega, trivial⟩
                case measure => simp [numOf]; omega
            | true =>
              obtain ⟨hq1, cq⟩ := HFX.out bx1
              have e3 : decide ((m : Int) ≤ q + 1) = false := decide_eq_false (by omega)
              have e4 : (q : Int) + 1 < m := by omega
              cases by1 : (yq == j) with
              | false =>
                clear HFX HFY HNO
                go_wp2
                go_roundw
                case rel => exact ⟨q + 1, by go_num, by omega, trivial⟩
                case measure => simp [numOf]; omega
              | true =>
                exact (HNO.out bx1 by1).elim
          · have e1 : decide ((q : Int) < m) = false := decide_eq_false (by omega)
            obtain ⟨r, hr⟩ : ∃ r, m = r + 1 := ⟨m - 1, by omega⟩
            obtain ⟨bt, ot, z, rfl, _, hz, ct⟩ := HTR.out.at_ (j := m - 1) (by omega)
            have hzi : z = i := by
              rw [HLi.out] at hz
              exact (Option.some.inj hz).symm
            subst hzi
            subst hr
            rw [Nat.add_sub_cancel] at ct
            have HA := hid (awake_any _ es (HE.out _ HBB.out))
            clear hz HXR HYR HTR HXS HYS HLi HLl
            go_wp2_with fail
            refine HA.out.mono ?_
            rintro e x20 ⟨rfl, hb20⟩
            have HB := hid (Below.on HBB.out hb20)
            clear hb20
            go_wp2
            go_ret
            exact ⟨rfl, HB.out⟩

theorem walk (a0 a1 a2 : Int) (w : World) (w0 : (Lit.int .i64 a0).wf = true) (w1 : (Lit.int .i64 a1).wf = true) (w2 : (Lit.int .i64 a2).wf = true) (hL : laidMetH Tryd.prog Rows.orderMovesRow.laid w) :
    Calls Tryd.prog 4 #[.int .i64 a0, .int .i64 a1, .int .i64 a2] w fun e w' => e = .returned (.bool true) ∧ Below w.heap.size w w' := by
  obtain ⟨es, hE⟩ := errs16 hL
  exact core a0 a1 a2 w w0 w1 w2 es hE
end Go.Proofs.YtfmlmkcgneiadaaDoor.orderMoves
