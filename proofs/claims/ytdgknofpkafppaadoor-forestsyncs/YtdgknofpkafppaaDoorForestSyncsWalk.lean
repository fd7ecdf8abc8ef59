/- ForestSyncs: for every number and every row of numbers the call returns true; nothing that was there has turned. -/
import Derived.Test.YtdgknofpkafppaaDoorBh
import Derived.Test.YtdgknofpkafppaaDoorFsSy
namespace Go.Proofs.YtdgknofpkafppaaDoor.forestSyncs
open Go Go.RowKit

theorem fldS1 (v0 v2 v3 v4 v5 v6 v7 v8 v9 : Value) (z : Int) (w : World) : (Instr.field 35 (.agg #[v0, .int .i64 z, v2, v3, v4, v5, v6, v7, v8, v9]) 1).run Tryd.prog w = .ok (.int .i64 z) w := by kernel_rfl

set_option maxRecDepth 100000 in
set_option maxHeartbeats 8000000 in
theorem core (a : Int) (a1 : Option Addr) (n1 c1 : Nat) (os : List Int) (w : World) (ha : -9223372036854775808 ≤ a ∧ a ≤ 9223372036854775807) (h1 : RdI .i64 w a1 n1 c1 os) (es : List Addr) (hE : Fe w es) :
    Calls Tryd.prog 3 #[.int .i64 a, .slice a1 n1 c1] w fun e w' => e = .returned (.bool true) ∧ Below w.heap.size w w' := by
  have hng := ng5 hE
  have HE := hid hE
  have H1 := hid h1
  have hs1 := h1.le
  have hs2 := h1.max
  simp only [maxLen] at hs2
  have CP := hid (place_any a 6 ha (by omega) (by omega))
  obtain ⟨k, hk⟩ : ∃ k, k = 2 + plc a 6 := ⟨_, rfl⟩
  have hk2 : 2 ≤ k ∧ k < 8 := by have := plc_lt a 6 (by omega); omega
  have hkk : 2 + (plc a 6 : Int) = (k : Int) := by omega
  have CQ : Hid (∀ z W, -9223372036854775808 ≤ z ∧ z ≤ 9223372036854775807 → _) := fun z W hz => place_any z (k - 1) hz (by omega) (by omega) W
  have CN := hid (fun w1 h1 h2 => pg_new (es := es) w w1 h1 h2 hng)
  have AW : Hid (∀ W, Below w.heap.size w W → Calls Tryd.prog 17 #[] W fun e w' => e = .returned (.bool true) ∧ Below W.heap.size W w') := fun W hW => fawake_any W (HE.out.on hW) (Nat.le_trans hng hW.size)
  clear hE ha hk h1 hng
  go_enter Tryd.func3, Tryd.ntmps3
  go_wp2_with fail
  refine (CP.out w).mono ?_
  rintro e w1 ⟨rfl, rfl⟩
  have e1 : IntKind.i64.wrap (2 + (plc a 6 : Int)) = (k : Int) := by rw [hkk, IntKind.wrap_i64]; omega
  go_wp2_with fail
  refine (CN.out w1 (Below.refl _ _) HE.out).mono ?_
  rintro e w2 ⟨p, rfl, hp2, -⟩
  have HP2 : Hid (Pg es w1 w2 p (3 * 0) (sna 0)) := hp2
  clear hp2 CN CP
  go_wp2
  go_loopw [7] (fun v wr => ∃ n : Nat, v = .int .i64 ((n + 1 : Nat) : Int) ∧ n ≤ k ∧ Pg es w1 wr p (3 * n) (sna n)) (fun v _ => 10 - (numOf v).toNat)
  case atStart => exact ⟨0, rfl, by omega, HP2.out⟩
  case round =>
    obtain ⟨n, rfl, hn, hp⟩ := hrel
    clear HP2
    by_cases hgo : n < k
    · have e2 : decide (((n + 1 : Nat) : Int) ≤ k) = true := decide_eq_true (by omega)
      have C1 := hid (hp.add (by omega) ((n + 1 : Nat) : Int) ⟨by omega, by omega⟩)
      rw [sn_add n (by omega), erv0] at C1
      have e3 : IntKind.i64.wrap (10 * ((n + 1 : Nat) : Int)) = 10 * ((n + 1 : Nat) : Int) := by rw [IntKind.wrap_i64]; omega
      clear hp
      cases h0 : decide (((n + 1 : Nat) : Int) > 1)
      · have hn0 : n = 0 := by have := of_decide_eq_false h0; omega
        subst hn0
        go_wp2_with fail
        refine C1.out.mono ?_
        rintro e w3 ⟨rfl, hp3⟩
        have C2 := hid (hp3.att (by omega) 1 10 ⟨by decide, by decide⟩ ⟨by decide, by decide⟩)
        rw [show ((0 + 1 : Nat) : Int) = 1 from rfl, sn_1.2, erv0, sn_1'] at C2
        clear hp3 C1
        go_wp2_with fail
        refine C2.out.mono ?_
        rintro e w4 ⟨rfl, hp4⟩
        have HP4 : Hid (Pg es w1 w4 p (3 * (0 + 1)) (sna (0 + 1))) := hp4.mono (by omega)
        clear hp4 C2
        go_wp2
        go_roundw
        case rel => exact ⟨1, by go_num, by omega, HP4.out⟩
        case measure => simp [numOf]
      · have hn0 : 0 < n := by have := of_decide_eq_true h0; omega
        have e4 : IntKind.i64.wrap (((n + 1 : Nat) : Int) - 1) = (n : Int) := by rw [IntKind.wrap_i64]; omega
        go_wp2_with fail
        refine C1.out.mono ?_
        rintro e w3 ⟨rfl, hp3⟩
        have C2 := hid (hp3.sub (by omega) ((n + 1 : Nat) : Int) (n : Int) ⟨by omega, by omega⟩ ⟨by omega, by omega⟩)
        rw [(sn_sub n (by omega) hn0).1, erv0] at C2
        clear hp3 C1
        go_wp2_with fail
        refine C2.out.mono ?_
        rintro e w4 ⟨rfl, hp4⟩
        have C3 := hid (hp4.att (by omega) ((n + 1 : Nat) : Int) (10 * ((n + 1 : Nat) : Int)) ⟨by omega, by omega⟩ ⟨by omega, by omega⟩)
        rw [(sn_sub n (by omega) hn0).2, erv0, sn_att n (by omega) hn0] at C3
        clear hp4 C2
        go_wp2_with fail
        refine C3.out.mono ?_
        rintro e w5 ⟨rfl, hp5⟩
        have HP5 : Hid (Pg es w1 w5 p (3 * (n + 1)) (sna (n + 1))) := hp5.mono (by omega)
        clear hp5 C3
        go_wp2
        go_roundw
        case rel => exact ⟨n + 1, by go_num, by omega, HP5.out⟩
        case measure => simp [numOf]; omega
    · have e2 : decide (((n + 1 : Nat) : Int) ≤ k) = false := decide_eq_false (by omega)
      obtain rfl : n = k := by omega
      have HP := hid hp
      clear hp hn hgo
      go_wp2
      generalize hv7 : Value.int .i64 ((n + 1 : Nat) : Int) = v7
      clear hv7
      go_loopw [8] (fun v wr => ∃ (j : Nat) (cs : List Bool), v = .int .i64 (j : Int) ∧ j ≤ 20 ∧ Wai n n cs ∧ Pg es w1 wr p (3 * n + j) (snl cs)) (fun v _ => 20 - (numOf v).toNat)
      case atStart => exact ⟨0, List.replicate n false, rfl, by omega, wai_rep n (by omega), HP.out⟩
      case round =>
        obtain ⟨j, cs, rfl, hj, hw, hp⟩ := hrel
        have HP' := hid hp
        have HW := hid hw
        clear HP hp hw
        by_cases hgo : j < n1 ∧ j < 20
        · have e5 : decide ((j : Int) < n1) = true := decide_eq_true (by omega)
          have e6 : decide ((j : Int) < 20) = true := decide_eq_true (by omega)
          obtain ⟨bl, off, rfl, hbl, hcl⟩ := H1.out.plain (by omega)
          have hjl : j < os.length := by rw [H1.out.len]; exact hgo.1
          have cl := hcl j hjl
          rw [← HP'.out.bel.cell hbl] at cl
          have hob : -9223372036854775808 ≤ os.getD j 0 ∧ os.getD j 0 ≤ 9223372036854775807 := by
            rw [List.getD, List.getElem?_eq_getElem hjl]
            exact wfB (H1.out.wf _ (List.getElem_mem hjl))
          have hjn : (j : Int) < n1 := by omega
          generalize os.getD j 0 = o at cl hob
          have C1 := hid (CQ.out o wr hob)
          have hpl := plc_lt o (n - 1) (by omega)
          generalize plc o (n - 1) = q at C1 hpl
          have e7 : IntKind.i64.wrap ((n : Int) - 1) = ((n - 1 : Nat) : Int) := by rw [IntKind.wrap_i64]; omega
          obtain ⟨i, hi⟩ : ∃ i, i = q + 2 := ⟨_, rfl⟩
          have e8 : IntKind.i64.wrap (2 + (q : Int)) = (i : Int) := by rw [IntKind.wrap_i64]; omega
          have hi2 : 2 ≤ i ∧ i ≤ n := by omega
          obtain ⟨x1, x2, x3⟩ := sn_com cs i (by rw [HW.out.1]; omega) hi2.1 (by rw [HW.out.1]; exact hi2.2)
          have C2 := hid (HP'.out.com (by omega) (i : Int) ⟨by omega, by omega⟩)
          rw [x1, erv0, x2] at C2
          have HX := hid x3
          have HW2 := hid (HW.out.set hi2.1)
          generalize cs.set (i - 1) true = cs' at C2 HX HW2
          clear hcl hob hpl hi HW HP' x1 x2 x3 hjl
          go_wp2_with fail
          refine C1.out.mono ?_
          rintro e w6 ⟨rfl, hw6⟩
          obtain rfl : wr = w6 := hw6.symm
          clear hw6 C1
          go_wp2_with fail
          refine C2.out.mono ?_
          rintro e w7 ⟨va, vc, rfl, -, hp7⟩
          have HP7 := hid hp7
          have C3 := hid (hp7.sno (by omega) (i : Int) ⟨by omega, by omega⟩)
          clear hp7 C2 cl
          go_wp2_with fail
          refine C3.out.mono ?_
          rintro e w8 ⟨r, rfl, -, -, hr, hb8⟩
          have hn0 : r.buf = 0 := (congrArg Sq.buf hr).trans HX.out
          have HP8 : Hid (Pg es w1 w8 p (3 * n + (j + 1)) (snl cs')) := HP7.out.on hb8
          clear hb8 HP7 C3 hr HX
          rw [hn0]
          have hfl := fldS1
          go_wp2
          go_roundw
          case rel => exact ⟨j + 1, cs', by go_num, by omega, HW2.out, HP8.out⟩
          case measure => simp [numOf]; omega
        · have HP : Hid (Pg es w1 wr p (3 * n + 20) (snl cs)) := HP'.out.mono (by omega)
          clear HP'
          by_cases hjn : j < n1
          · have e5 : decide ((j : Int) < n1) = true := decide_eq_true (by omega)
            have e6 : decide ((j : Int) < 20) = false := decide_eq_false (by omega)
            have hj2 : ¬ j < 20 := by omega
            clear hgo
            go_wp2
            generalize hv8 : Value.int .i64 (j : Int) = v8
            clear hv8
            go_loopw [12] (fun v wr => ∃ (m : Nat) (cs : List Bool), v = .int .i64 (m : Int) ∧ 1 ≤ m ∧ m ≤ n ∧ Wai n m cs ∧ Pg es w1 wr p (3 * n + 20 + (n - m)) (snl cs)) (fun v _ => (numOf v).toNat)
            case atStart => exact ⟨n, cs, rfl, by omega, by omega, HW.out, HP.out.mono (by omega)⟩
            case round =>
              obtain ⟨m, cs, rfl, hm1, hm2, hw, hp⟩ := hrel
              clear HP HW
              by_cases hm : 2 ≤ m
              · have e7 : decide ((m : Int) ≥ 2) = true := decide_eq_true (by omega)
                have e8 : IntKind.i64.wrap ((m : Int) - 1) = ((m - 1 : Nat) : Int) := by rw [IntKind.wrap_i64]; omega
                obtain ⟨x1, x2, -⟩ := sn_com cs m (by rw [hw.1]; omega) hm (by rw [hw.1]; exact hm2)
                have C2 := hid (hp.com (by omega) (m : Int) ⟨by omega, by omega⟩)
                rw [x1, erv0, x2] at C2
                have HW2 : Hid (Wai n (m - 1) (cs.set (m - 1) true)) := Wai.less (n := m - 1) (by rw [Nat.sub_add_cancel (by omega)]; exact hw) (by omega)
                generalize cs.set (m - 1) true = cs' at C2 HW2
                clear x1 x2 hw hp
                go_wp2_with fail
                refine C2.out.mono ?_
                rintro e w7 ⟨va, vc, rfl, -, hp7⟩
                have HP7 : Hid (Pg es w1 w7 p (3 * n + 20 + (n - (m - 1))) (snl cs')) := hp7.mono (by omega)
                clear hp7 C2
                go_wp2
                go_roundw
                case rel => exact ⟨m - 1, cs', by first | rfl | go_num, by omega, by omega, HW2.out, HP7.out⟩
                case measure => simp [numOf]; omega
              · have e7 : decide ((m : Int) ≥ 2) = false := decide_eq_false (by omega)
                obtain rfl : m = 1 := by omega
                have HZ : Hid (Pg es w1 wr p (3 * n + 20 + n) (snz n)) := by
                  rw [Hid, snz, ← hw.all (by omega)]
                  exact hp.mono (by omega)
                clear hw hp hm hm1 hm2
                have e9 : IntKind.i64.wrap ((n : Int) - 1) = ((n - 1 : Nat) : Int) := by rw [IntKind.wrap_i64]; omega
                have C1 := hid (HZ.out.wlk 1 ⟨by decide, by decide⟩)
                rw [(sn_wlk n hk2.2 hk2.1).1] at C1
                go_wp2_with fail
                refine C1.out.mono ?_
                rintro e w9 ⟨va, vc, rfl, -, hb9⟩
                have HZ9 := hid (HZ.out.on hb9)
                have C2 := hid HZ9.out.hld
                clear hb9 HZ C1
                go_wp2_with fail
                refine C2.out.mono ?_
                rintro e w10 ⟨za, zc, zs, rfl, -, hr, hm, hb10⟩
                have hl := sn_held hk2.2 hk2.1 hr hm
                have HZ10 := hid (HZ9.out.on hb10)
                have C3 := hid (HZ10.out.com (by omega) 1 ⟨by decide, by decide⟩)
                rw [(sn_wlk n hk2.2 hk2.1).2, erv0, (sn_end n hk2.2 hk2.1).1, List.length_map, List.length_range] at C3
                rw [hl]
                clear hl hr hm hb10 HZ9 C2
                go_wp2_with fail
                refine C3.out.mono ?_
                rintro e w11 ⟨la, lc, rfl, hR, hp11⟩
                have HP11 : Hid (Pg es w1 w11 p (3 * n + 20 + n + 1) (sne n)) := hp11
                obtain ⟨bl, off, rfl, hbl, hcl⟩ := hR.pl (by omega)
                have hsz := hR.le
                have HC : Hid (∀ i, i < n → w11.cell? ⟨bl, off + i, none⟩ = some (.int .i64 ((i : Int) + 1))) := fun i hi => hcl i _ (by rw [List.getElem?_map, List.getElem?_range hi]; rfl)
                have C4 := hid (HP11.out.wlk 1 ⟨by decide, by decide⟩)
                rw [(sn_end n hk2.2 hk2.1).2] at C4
                clear hp11 hR hcl HZ10 C3
                go_wp2_with fail
                refine C4.out.mono ?_
                rintro e w12 ⟨vb, vd, rfl, -, hb12⟩
                have HP12 := hid (HP11.out.on hb12)
                have HB12 := hid hb12
                clear hb12 HP11 C4
                go_wp2
                go_loopw [17] (fun v wr => ∃ i : Nat, v = .int .i64 (i : Int) ∧ i ≤ n ∧ Pg es w1 wr p (3 * n + 20 + n + 1) (sne n) ∧ Below w11.heap.size w11 wr) (fun v _ => 10 - (numOf v).toNat)
                case atStart => exact ⟨0, rfl, by omega, HP12.out, HB12.out⟩
                case round =>
                  obtain ⟨i, rfl, hi, hp, hbw⟩ := hrel
                  clear HP12 HB12
                  by_cases hgo : i < n
                  · have e10 : decide ((i : Int) < n) = true := decide_eq_true (by omega)
                    have hin : (i : Int) < n := by omega
                    have hcc : ((i + 1 : Nat) : Int) = (i : Int) + 1 := by omega
                    obtain ⟨x1, x2⟩ := sn_cur n hk2.2 hk2.1 i hgo
                    rw [hcc] at x1 x2
                    have cl : wr.cell? ⟨bl, off + i, none⟩ = some (.int .i64 ((i : Int) + 1)) := by rw [hbw.cell hbl]; exact HC.out i hgo
                    have e11 : IntKind.i64.wrap ((i : Int) + 1) = (i : Int) + 1 := by rw [IntKind.wrap_i64]; omega
                    have e12 : IntKind.i64.wrap (10 * ((i : Int) + 1)) = 10 * ((i : Int) + 1) := by rw [IntKind.wrap_i64]; omega
                    have HP := hid hp
                    have HBW := hid hbw
                    have HX2 := hid x2
                    have HX1 := hid x1
                    have C5 := hid (hp.sno (by omega) ((i : Int) + 1) ⟨by omega, by omega⟩)
                    clear hp hbw x1 x2 hcc
                    go_wp2_with fail
                    refine C5.out.mono ?_
                    rintro e w13 ⟨r, rfl, -, -, hr, hb13⟩
                    have hn0 : r.buf = 10 * ((i : Int) + 1) := (congrArg Sq.buf hr).trans HX1.out
                    have HP13 := hid (HP.out.on hb13)
                    have HB13 := hid (Below.on HBW.out hb13)
                    have C6 := hid (HP13.out.syd ((i : Int) + 1) ⟨by omega, by omega⟩)
                    rw [HX2.out] at C6
                    rw [hn0]
                    clear hb13 hr HP HBW C5 cl HX1 HX2 hn0
                    have hfl := fldS1
                    by_cases hi0 : i = 0
                    · subst hi0
                      rw [show decide (0 < 0) = false from rfl] at C6
                      go_wp2_with fail
                      refine C6.out.mono ?_
                      rintro e w14 ⟨rfl, hb14⟩
                      have HP14 := hid (HP13.out.on hb14)
                      have HB14 := hid (Below.on HB13.out hb14)
                      clear hb14 HP13 HB13 C6 hfl
                      go_wp2
                      go_roundw
                      case rel => exact ⟨1, by go_num, by omega, HP14.out, HB14.out⟩
                      case measure => simp [numOf]
                    · rw [show decide (0 < i) = true from decide_eq_true (by omega)] at C6
                      have z1 : ((i : Int) == 0) = false := by simpa using hi0
                      have z2 : decide ((i : Int) = 0) = false := decide_eq_false (by omega)
                      clear hi0
                      go_wp2_with fail
                      refine C6.out.mono ?_
                      rintro e w14 ⟨rfl, hb14⟩
                      have HP14 := hid (HP13.out.on hb14)
                      have HB14 := hid (Below.on HB13.out hb14)
                      clear hb14 HP13 HB13 C6 hfl
                      go_wp2
                      go_roundw
                      case rel => exact ⟨i + 1, by go_num, by omega, HP14.out, HB14.out⟩
                      case measure => simp [numOf]; omega
                  · have e10 : decide ((i : Int) < n) = false := decide_eq_false (by omega)
                    have AWr := hid (AW.out wr hp.bel)
                    have HB := hid hp.bel
                    clear hp hbw
                    go_wp2_with fail
                    refine AWr.out.mono ?_
                    rintro e w7 ⟨rfl, hb7⟩
                    have HB7 := hid (Below.on HB.out hb7)
                    clear hb7
                    go_wp2
                    go_ret
                    exact ⟨rfl, HB7.out⟩
          · have e5 : decide ((j : Int) < n1) = false := decide_eq_false (by omega)
            clear hgo
            go_wp2
            generalize hv8 : Value.int .i64 (j : Int) = v8
            clear hv8
            go_loopw [12] (fun v wr => ∃ (m : Nat) (cs : List Bool), v = .int .i64 (m : Int) ∧ 1 ≤ m ∧ m ≤ n ∧ Wai n m cs ∧ Pg es w1 wr p (3 * n + 20 + (n - m)) (snl cs)) (fun v _ => (numOf v).toNat)
            case atStart => exact ⟨n, cs, rfl, by omega, by omega, HW.out, HP.out.mono (by omega)⟩
            case round =>
              obtain ⟨m, cs, rfl, hm1, hm2, hw, hp⟩ := hrel
              clear HP HW
              by_cases hm : 2 ≤ m
              · have e7 : decide ((m : Int) ≥ 2) = true := decide_eq_true (by omega)
                have e8 : IntKind.i64.wrap ((m : Int) - 1) = ((m - 1 : Nat) : Int) := by rw [IntKind.wrap_i64]; omega
                obtain ⟨x1, x2, -⟩ := sn_com cs m (by rw [hw.1]; omega) hm (by rw [hw.1]; exact hm2)
                have C2 := hid (hp.com (by omega) (m : Int) ⟨by omega, by omega⟩)
                rw [x1, erv0, x2] at C2
                have HW2 : Hid (Wai n (m - 1) (cs.set (m - 1) true)) := Wai.less (n := m - 1) (by rw [Nat.sub_add_cancel (by omega)]; exact hw) (by omega)
                generalize cs.set (m - 1) true = cs' at C2 HW2
                clear x1 x2 hw hp
                go_wp2_with fail
                refine C2.out.mono ?_
                rintro e w7 ⟨va, vc, rfl, -, hp7⟩
                have HP7 : Hid (Pg es w1 w7 p (3 * n + 20 + (n - (m - 1))) (snl cs')) := hp7.mono (by omega)
                clear hp7 C2
                go_wp2
                go_roundw
                case rel => exact ⟨m - 1, cs', by first | rfl | go_num, by omega, by omega, HW2.out, HP7.out⟩
                case measure => simp [numOf]; omega
              · have e7 : decide ((m : Int) ≥ 2) = false := decide_eq_false (by omega)
                obtain rfl : m = 1 := by omega
                have HZ : Hid (Pg es w1 wr p (3 * n + 20 + n) (snz n)) := by
                  rw [Hid, snz, ← hw.all (by omega)]
                  exact hp.mono (by omega)
                clear hw hp hm hm1 hm2
                have e9 : IntKind.i64.wrap ((n : Int) - 1) = ((n - 1 : Nat) : Int) := by rw [IntKind.wrap_i64]; omega
                have C1 := hid (HZ.out.wlk 1 ⟨by decide, by decide⟩)
                rw [(sn_wlk n hk2.2 hk2.1).1] at C1
                go_wp2_with fail
                refine C1.out.mono ?_
                rintro e w9 ⟨va, vc, rfl, -, hb9⟩
                have HZ9 := hid (HZ.out.on hb9)
                have C2 := hid HZ9.out.hld
                clear hb9 HZ C1
                go_wp2_with fail
                refine C2.out.mono ?_
                rintro e w10 ⟨za, zc, zs, rfl, -, hr, hm, hb10⟩
                have hl := sn_held hk2.2 hk2.1 hr hm
                have HZ10 := hid (HZ9.out.on hb10)
                have C3 := hid (HZ10.out.com (by omega) 1 ⟨by decide, by decide⟩)
                rw [(sn_wlk n hk2.2 hk2.1).2, erv0, (sn_end n hk2.2 hk2.1).1, List.length_map, List.length_range] at C3
                rw [hl]
                clear hl hr hm hb10 HZ9 C2
                go_wp2_with fail
                refine C3.out.mono ?_
                rintro e w11 ⟨la, lc, rfl, hR, hp11⟩
                have HP11 : Hid (Pg es w1 w11 p (3 * n + 20 + n + 1) (sne n)) := hp11
                obtain ⟨bl, off, rfl, hbl, hcl⟩ := hR.pl (by omega)
                have hsz := hR.le
                have HC : Hid (∀ i, i < n → w11.cell? ⟨bl, off + i, none⟩ = some (.int .i64 ((i : Int) + 1))) := fun i hi => hcl i _ (by rw [List.getElem?_map, List.getElem?_range hi]; rfl)
                have C4 := hid (HP11.out.wlk 1 ⟨by decide, by decide⟩)
                rw [(sn_end n hk2.2 hk2.1).2] at C4
                clear hp11 hR hcl HZ10 C3
                go_wp2_with fail
                refine C4.out.mono ?_
                rintro e w12 ⟨vb, vd, rfl, -, hb12⟩
                have HP12 := hid (HP11.out.on hb12)
                have HB12 := hid hb12
                clear hb12 HP11 C4
                go_wp2
                go_loopw [17] (fun v wr => ∃ i : Nat, v = .int .i64 (i : Int) ∧ i ≤ n ∧ Pg es w1 wr p (3 * n + 20 + n + 1) (sne n) ∧ Below w11.heap.size w11 wr) (fun v _ => 10 - (numOf v).toNat)
                case atStart => exact ⟨0, rfl, by omega, HP12.out, HB12.out⟩
                case round =>
                  obtain ⟨i, rfl, hi, hp, hbw⟩ := hrel
                  clear HP12 HB12
                  by_cases hgo : i < n
                  · have e10 : decide ((i : Int) < n) = true := decide_eq_true (by omega)
                    have hin : (i : Int) < n := by omega
                    have hcc : ((i + 1 : Nat) : Int) = (i : Int) + 1 := by omega
                    obtain ⟨x1, x2⟩ := sn_cur n hk2.2 hk2.1 i hgo
                    rw [hcc] at x1 x2
                    have cl : wr.cell? ⟨bl, off + i, none⟩ = some (.int .i64 ((i : Int) + 1)) := by rw [hbw.cell hbl]; exact HC.out i hgo
                    have e11 : IntKind.i64.wrap ((i : Int) + 1) = (i : Int) + 1 := by rw [IntKind.wrap_i64]; omega
                    have e12 : IntKind.i64.wrap (10 * ((i : Int) + 1)) = 10 * ((i : Int) + 1) := by rw [IntKind.wrap_i64]; omega
                    have HP := hid hp
                    have HBW := hid hbw
                    have HX2 := hid x2
                    have HX1 := hid x1
                    have C5 := hid (hp.sno (by omega) ((i : Int) + 1) ⟨by omega, by omega⟩)
                    clear hp hbw x1 x2 hcc
                    go_wp2_with fail
                    refine C5.out.mono ?_
                    rintro e w13 ⟨r, rfl, -, -, hr, hb13⟩
                    have hn0 : r.buf = 10 * ((i : Int) + 1) := (congrArg Sq.buf hr).trans HX1.out
                    have HP13 := hid (HP.out.on hb13)
                    have HB13 := hid (Below.on HBW.out hb13)
                    have C6 := hid (HP13.out.syd ((i : Int) + 1) ⟨by omega, by omega⟩)
                    rw [HX2.out] at C6
                    rw [hn0]
                    clear hb13 hr HP HBW C5 cl HX1 HX2 hn0
                    have hfl := fldS1
                    by_cases hi0 : i = 0
                    · subst hi0
                      rw [show decide (0 < 0) = false from rfl] at C6
                      go_wp2_with fail
                      refine C6.out.mono ?_
                      rintro e w14 ⟨rfl, hb14⟩
                      have HP14 := hid (HP13.out.on hb14)
                      have HB14 := hid (Below.on HB13.out hb14)
                      clear hb14 HP13 HB13 C6 hfl
                      go_wp2
                      go_roundw
                      case rel => exact ⟨1, by go_num, by omega, HP14.out, HB14.out⟩
                      case measure => simp [numOf]
                    · rw [show decide (0 < i) = true from decide_eq_true (by omega)] at C6
                      have z1 : ((i : Int) == 0) = false := by simpa using hi0
                      have z2 : decide ((i : Int) = 0) = false := decide_eq_false (by omega)
                      clear hi0
                      go_wp2_with fail
                      refine C6.out.mono ?_
                      rintro e w14 ⟨rfl, hb14⟩
                      have HP14 := hid (HP13.out.on hb14)
                      have HB14 := hid (Below.on HB13.out hb14)
                      clear hb14 HP13 HB13 C6 hfl
                      go_wp2
                      go_roundw
                      case rel => exact ⟨i + 1, by go_num, by omega, HP14.out, HB14.out⟩
                      case measure => simp [numOf]; omega
                  · have e10 : decide ((i : Int) < n) = false := decide_eq_false (by omega)
                    have AWr := hid (AW.out wr hp.bel)
                    have HB := hid hp.bel
                    clear hp hbw
                    go_wp2_with fail
                    refine AWr.out.mono ?_
                    rintro e w7 ⟨rfl, hb7⟩
                    have HB7 := hid (Below.on HB.out hb7)
                    clear hb7
                    go_wp2
                    go_ret
                    exact ⟨rfl, HB7.out⟩

theorem walk (a0 : Int) (a1 : Option Addr) (n1 c1 : Nat) (os : List Int) (w : World) (w0 : (Lit.int .i64 a0).wf = true) (h1 : RdI .i64 w a1 n1 c1 os) (_ : c1 * 8 ≤ 140737488351232) (hL : laidMetH Tryd.prog Rows.forestSyncsRow.laid w) :
    Calls Tryd.prog 3 #[.int .i64 a0, .slice a1 n1 c1] w fun e w' => e = .returned (.bool true) ∧ Below w.heap.size w w' := by
  obtain ⟨es, hE⟩ := fe5 hL
  exact core a0 a1 n1 c1 os w (wfB w0) h1 es hE
end Go.Proofs.YtdgknofpkafppaaDoor.forestSyncs
