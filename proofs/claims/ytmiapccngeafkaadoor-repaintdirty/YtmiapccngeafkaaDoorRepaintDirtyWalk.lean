/- RepaintDirty: for every colour, two numbers, rectangle and points the call returns true; nothing that was there has turned. Laid by repaint/lay.sh (PRINT: the door seat's). -/
import Derived.Test.YtmiapccngeafkaaDoorBg
import Derived.Test.YtmiapccngeafkaaDoorBf
import Derived.Test.YtmiapccngeafkaaDoorBh
import Derived.Test.YtmiapccngeafkaaDoorBi
import Derived.Test.YtmiapccngeafkaaDoorBb
import Derived.LaidMore
namespace Go.Proofs.YtmiapccngeafkaaDoor.repaintDirty
open Go Go.RowKit

theorem wfu {z : Int} (h : (Lit.int .u32 z).wf = true) : Col z := by
  simp [Lit.wf, IntKind.min, IntKind.max, IntKind.signed, IntKind.bits] at h
  unfold Col
  omega
theorem imf_one {b0 w0 h0 : Int} {l : List Int} {k : Int} {g : Im} (h : imf k [⟨b0, w0, h0, l⟩] = some g) : g = ⟨b0, w0, h0, l⟩ := by
  have := List.mem_of_find?_eq_some h
  simpa using this

set_option maxRecDepth 100000 in
set_option maxHeartbeats 4000000 in
theorem walk (a0 a1 a2 : Int) (m3_0 m3_1 m3_2 m3_3 : Int) (a4 : Option Addr) (n4 c4 : Nat) (l4 : List Int) (a5 : Option Addr) (n5 c5 : Nat) (l5 : List Int) (w : World) (w0 : (Lit.int .u32 a0).wf = true) (w1 : (Lit.int .i64 a1).wf = true) (w2 : (Lit.int .i64 a2).wf = true) (w3 : ∀ z ∈ [m3_0, m3_1, m3_2, m3_3], (Lit.int .i64 z).wf = true) (w4 : RdI .u32 w a4 n4 c4 l4) (_z4 : c4 * 4 ≤ 140737488351232) (w5 : RdI .u32 w a5 n5 c5 l5) (_z5 : c5 * 4 ≤ 140737488351232) (_hL : laidMetH Tryd.prog Rows.repaintDirtyRow.laid w) :
    Calls Tryd.prog 3 #[.int .u32 a0, .int .i64 a1, .int .i64 a2, .agg #[.int .i64 m3_0, .int .i64 m3_1, .int .i64 m3_2, .int .i64 m3_3], .slice a4 n4 c4, .slice a5 n5 c5] w fun e w' => e = .returned (.bool true) ∧ Below w.heap.size w w' := by
  have hc := wfu w0
  have okr : (Rc.mk m3_0 m3_1 m3_2 m3_3).Ok := ⟨i64_wf (w3 _ (by simp)), i64_wf (w3 _ (by simp)), i64_wf (w3 _ (by simp)), i64_wf (w3 _ (by simp))⟩
  have HPX : Hid (∀ u, Calls Tryd.prog 7 #[.int .i64 a1, .int .i64 20] u fun e w' => e = .returned (.int .i64 (plc a1 20 : Nat)) ∧ w' = u) := fun u => place_any a1 20 (i64_wf w1) (by omega) (by omega) u
  have HPY : Hid (∀ u, Calls Tryd.prog 7 #[.int .i64 a2, .int .i64 16] u fun e w' => e = .returned (.int .i64 (plc a2 16 : Nat)) ∧ w' = u) := fun u => place_any a2 16 (i64_wf w2) (by omega) (by omega) u
  have bx := plc_lt a1 20 (by omega)
  have by_ := plc_lt a2 16 (by omega)
  generalize plc a1 20 = mx at HPX bx
  generalize plc a2 16 = my at HPY by_
  have hs4 : n4 ≤ 9223372036854775807 ∧ c4 ≤ 9223372036854775807 := by have h1 := w4.le; have h2 := w4.max; simp only [maxLen] at h2; omega
  have hs5 : n5 ≤ 9223372036854775807 ∧ c5 ≤ 9223372036854775807 := by have h1 := w5.le; have h2 := w5.max; simp only [maxLen] at h2; omega
  have HL4 := hid w4
  have HL5 := hid w5
  have OK := hid okr
  obtain ⟨r, hr⟩ : ∃ r : Rc, r = ⟨m3_0, m3_1, m3_2, m3_3⟩ := ⟨_, rfl⟩
  have e0 : r.x = m3_0 := by rw [hr]
  have e1 : r.y = m3_1 := by rw [hr]
  have e2 : r.w = m3_2 := by rw [hr]
  have e3 : r.h = m3_3 := by rw [hr]
  rw [← hr] at OK
  rw [← e0, ← e1, ← e2, ← e3]
  obtain ⟨W, hW⟩ : ∃ W, (11 : Nat) = W := ⟨_, rfl⟩
  obtain ⟨H, hH⟩ : ∃ H, (8 : Nat) = H := ⟨_, rfl⟩
  have eW : (W : Int) = 11 := by omega
  have eH : (H : Int) = 8 := by omega
  have hW1 : 1 ≤ W ∧ W ≤ 48 := by omega
  have hH1 : 1 ≤ H ∧ H ≤ 48 := by omega
  have CW : Hid (∀ u, Calls Tryd.prog 8 #[.int .i64 11, .int .i64 8] u (Own 56 u W H (List.replicate (W * H) 0) fun v => .tuple #[v, .nilIface])) := fun u => by
    have := cnew_any u W H hW1 hH1
    rwa [eW, eH] at this
  obtain ⟨N, hN⟩ : ∃ N, W * H = N := ⟨_, rfl⟩
  have HN := hid hN
  have hNs : N ≤ 2304 := by rw [← hN]; exact Nat.mul_le_mul hW1.2 hH1.2
  have HRX := hid (bx_new w r)
  have HRB := hid (below_new w (ob r))
  rw [ob] at HRB
  clear w0 w1 w2 w3 w4 w5 _z4 _z5 _hL okr eW eH hN hW hH e0 e1 e2 e3 hr
  go_enter Tryd.func3, Tryd.ntmps3
  by_cases g4 : n4 < 30
  · have t4 : decide ((n4 : Int) < 30) = true := decide_eq_true (by omega)
    go_wp2_with fail
    refine (qawake24_any _).mono ?_
    rintro e x2 ⟨rfl, hb2⟩
    have HB2 := hid (Below.on HRB.out hb2)
    go_wp2
    go_ret
    exact ⟨rfl, HB2.out⟩
  have t4 : decide ((n4 : Int) < 30) = false := decide_eq_false (by omega)
  by_cases g5 : n5 < 30
  · have t5 : decide ((n5 : Int) < 30) = true := decide_eq_true (by omega)
    go_wp2_with fail
    refine (qawake24_any _).mono ?_
    rintro e x2 ⟨rfl, hb2⟩
    have HB2 := hid (Below.on HRB.out hb2)
    go_wp2
    go_ret
    exact ⟨rfl, HB2.out⟩
  have t5 : decide ((n5 : Int) < 30) = false := decide_eq_false (by omega)
  have HPP := hid (HL4.out.takeN (m := 30) (by omega))
  have hc30 : 30 ≤ c4 := by have := HL4.out.le; omega
  have hci : (30 : Int) ≤ (c4 : Int) := by omega
  have hlow4 : ∀ x, a4 = some x → x.block < w.heap.size := fun x hx => by
    obtain ⟨b, off, e, h, _⟩ := HL4.out.plain (by omega)
    rw [hx] at e
    cases e
    exact h
  obtain ⟨b4, o4, he4, _, _⟩ := HL4.out.plain (show 0 < n4 by omega)
  subst he4
  obtain ⟨P, hP⟩ : ∃ P, l4.take 30 = P := ⟨_, rfl⟩
  rw [hP] at HPP
  clear hP
  go_upto_region 3 with fail
  generalize w.alloc (.cells #[.int .i64 r.x, .int .i64 r.y, .int .i64 r.w, .int .i64 r.h] 24) = x1 at HRX HRB ⊢
  refine wp_region_held_drew (S := fun x => RowKit.Below x1.heap.size x1 x) (by kernel_rfl) ?hh (fun hHeld => ?_)
  case hh => exact ((Below.refl _ _).drew)
  refine wpAnyH_take (i := 0) (v := ?_) rfl (by kernel_rfl) (by kernel_rfl) (by kernel_rfl) (fun _ _ _ h => h) (Or.inl ⟨by kernel_rfl, ?hy0⟩) (by assumption) ?_
  case hy0 => (intro w hSw; (try dsimp only at hSw); go_simp; try with_reducible rfl)
  try simp only [Act.put, List.getElem_toArray, List.getElem_cons_zero, List.setIfInBounds_toArray, List.set_cons_zero, List.set_cons_succ]
  refine wpAnyH_take (i := 1) (v := ?_) rfl (by kernel_rfl) (by kernel_rfl) (by kernel_rfl) (fun _ _ _ h => h) (Or.inl ⟨by kernel_rfl, ?hy1⟩) (by assumption) ?_
  case hy1 => (intro w hSw; (try dsimp only at hSw); go_simp; try with_reducible rfl)
  try simp only [Act.put, List.getElem_toArray, List.getElem_cons_zero, List.getElem_cons_succ, List.setIfInBounds_toArray, List.set_cons_zero, List.set_cons_succ]
  refine wpAnyH_take (i := 2) (v := ?_) rfl (by kernel_rfl) (by kernel_rfl) (by kernel_rfl) (fun _ _ _ h => h) (Or.inl ⟨by kernel_rfl, ?hy2⟩) (by assumption) ?_
  case hy2 => (intro w hSw; (try dsimp only at hSw); go_simp; try with_reducible rfl)
  try simp only [Act.put, List.getElem_toArray, List.getElem_cons_zero, List.getElem_cons_succ, List.setIfInBounds_toArray, List.set_cons_zero, List.set_cons_succ]
  refine wpAnyH_take (i := 3) (v := ?_) rfl (by kernel_rfl) (by kernel_rfl) (by kernel_rfl) (fun _ _ _ h => h) (Or.inl ⟨by kernel_rfl, ?hy3⟩) (by assumption) ?_
  case hy3 => (intro w hSw; (try dsimp only at hSw); go_simp; try with_reducible rfl)
  try simp only [Act.put, List.getElem_toArray, List.getElem_cons_zero, List.getElem_cons_succ, List.setIfInBounds_toArray, List.set_cons_zero, List.set_cons_succ]
  refine wpAnyH_ready (rs := [4]) (by kernel_rfl) (by simp) ?_
  refine AllReadyH.cons rfl (fun K hK => ?_) AllReadyH.nil
  go_simp
  go_wp2_with fail
  refine (nwords_any (some ⟨b4, o4, none⟩) 30 c4 P ((HPP.out.on HRB.out).on hHeld) (by omega) (by omega)).mono ?_
  rintro e x2 ⟨g, cq, rfl, hPw, hg, hb2⟩
  have hH2 := Below.on hHeld hb2
  have HPW := hid hPw
  refine hK.out _ _ hH2 (fun _ => ?_)
  clear hK K hHeld hb2 hPw
  have hHeld := hH2
  clear hH2
  refine wpAnyH_take (i := 5) (v := ?_) rfl (by kernel_rfl) (by kernel_rfl) (by kernel_rfl) (fun _ _ _ h => h) (Or.inl ⟨by kernel_rfl, ?hy5⟩) (by assumption) ?_
  case hy5 => (intro w hSw; (try dsimp only at hSw); go_simp; try with_reducible rfl)
  try simp only [Act.put, List.getElem_toArray, List.getElem_cons_zero, List.getElem_cons_succ, List.setIfInBounds_toArray, List.set_cons_zero, List.set_cons_succ]
  refine wpAnyH_take (i := 6) (v := ?_) rfl (by kernel_rfl) (by kernel_rfl) (by kernel_rfl) (fun _ _ _ h => h) (Or.inl ⟨by kernel_rfl, ?hy6⟩) (by assumption) ?_
  case hy6 => (intro w hSw; (try dsimp only at hSw); go_simp; try with_reducible rfl)
  try simp only [Act.put, List.getElem_toArray, List.getElem_cons_zero, List.getElem_cons_succ, List.setIfInBounds_toArray, List.set_cons_zero, List.set_cons_succ]
  refine wpAnyH_done (by kernel_rfl) ?_ _
  have HR2 := hid (HRX.out.on hHeld)
  have HB2 := hid (Below.on HRB.out hHeld)
  have hg1 : w.heap.size < g := by
    have h1 := HRX.out.lt
    rw [show x1.drew.heap.size = x1.heap.size from rfl] at hg
    omega
  clear hHeld hg HRX HRB
  go_wp2
  obtain ⟨x3, rfl⟩ : ∃ x, x = x2 := ⟨_, rfl⟩
  go_loopw [15] (fun t wr => ∃ (j : Nat) (Q : List Int), t = .int .i64 j ∧ j ≤ 30 ∧ Pw wr g 30 cq Q ∧ Kp [g] x3 wr ∧ ∀ k : Nat, k < 30 → Q[k]? = if k < j ∧ inC [r] ((k % 6 : Nat) : Int) ((k / 6 : Nat) : Int) = true then l5[k]? else P[k]?) (fun t _ => 30 - (numOf t).toNat)
  case atStart => exact ⟨0, P, rfl, by omega, HPW.out, Kp.refl _ _, fun k _ => by rw [if_neg (by omega)]⟩
  case round =>
    obtain ⟨j, Q, rfl, hj, hPw, hK, hQ⟩ := hrel
    have HP4 := hid hPw
    have HK4 := hid hK
    have HQ := hid hQ
    clear hPw hK hQ HPW
    by_cases hgj : j < 30
    · have t1 : decide ((j : Int) < 30) = true := decide_eq_true (by omega)
      have HR4 := hid (HR2.out.kp HK4.out (by simp only [List.mem_singleton]; omega))
      obtain ⟨q0, q1, q2, q3⟩ := HR4.out.all
      have hbA := below_new wr (ob r)
      have hRL := rdc_lit wr r OK.out
      rw [ob] at hbA
      have CI := hid (rin14_any _ 1 1 [r] _ hRL ((j : Int) % 6) ((j : Int) / 6) (by rw [I64]; omega) (by rw [I64]; omega))
      have HBA := hid hbA
      have em : ((j % 6 : Nat) : Int) = (j : Int) % 6 := by omega
      have ed : ((j / 6 : Nat) : Int) = (j : Int) / 6 := by omega
      have HQJ : Hid (∀ (Q' : List Int) (t : Bool), inC [r] ((j : Int) % 6) ((j : Int) / 6) = t → (∀ k : Nat, k ≠ j → Q'[k]? = Q[k]?) → Q'[j]? = (if t = true then l5[j]? else P[j]?) → ∀ k : Nat, k < 30 → Q'[k]? = if k < j + 1 ∧ inC [r] ((k % 6 : Nat) : Int) ((k / 6 : Nat) : Int) = true then l5[k]? else P[k]?) := fun Q' t ht h1 h2 k hk => by
        by_cases hkj : k = j
        · subst hkj
          rw [h2, em, ed, ht]
          cases t
          · rw [if_neg (by decide), if_neg (by simp)]
          · rw [if_pos rfl, if_pos ⟨by omega, rfl⟩]
        · rw [h1 k hkj, HQ.out k hk]
          by_cases hin : inC [r] ((k % 6 : Nat) : Int) ((k / 6 : Nat) : Int) = true
          · by_cases hlt : k < j
            · rw [if_pos ⟨hlt, hin⟩, if_pos ⟨by omega, hin⟩]
            · rw [if_neg (by omega), if_neg (by omega)]
          · rw [if_neg (fun h => hin h.2), if_neg (fun h => hin h.2)]
      have HQN : Hid (Q[j]? = P[j]?) := by rw [Hid, HQ.out j hgj, if_neg (by omega)]
      clear hbA hRL em ed
      go_wp2_with fail
      refine CI.out.mono ?_
      rintro e y1 ⟨rfl, hb1⟩
      have HBY := hid (Below.on HBA.out hb1)
      have HP5 := hid (HP4.out.on HBY.out)
      have HK5 := hid (HK4.out.trans (kp_of_below HBY.out []) (by simp))
      have HWY := hid (bel_kp HB2.out HK5.out HB2.out.size (fun k hk => by simp only [List.mem_cons, List.not_mem_nil, or_false] at hk; omega))
      clear hb1 CI HR4 q0 q1 q2 q3 HBY HBA
      cases hin : inC [r] ((j : Int) % 6) ((j : Int) / 6)
      · have HQ2 := hid (HQJ.out Q false hin (fun _ _ => rfl) (by rw [HQN.out, if_neg (by decide)]))
        clear hin HQJ HQN HQ HP4 HK4 HWY
        go_wp2
        go_roundw
        case rel => exact ⟨j + 1, Q, by go_num, by omega, HP5.out, HK5.out, HQ2.out⟩
        case measure => simp [numOf]; omega
      · obtain ⟨b5, o5, he5, hb5, hc5⟩ := HL5.out.plain (show 0 < n5 by omega)
        subst he5
        have hl5 := HL5.out.len
        obtain ⟨o, hO⟩ : ∃ o, l5[j]? = some o := ⟨_, List.getElem?_eq_getElem (by omega)⟩
        obtain ⟨z, hZ⟩ : ∃ z, Q[j]? = some z := ⟨_, List.getElem?_eq_getElem (by have := HP5.out.len; omega)⟩
        have r5 := (HWY.out.cell (p := ⟨b5, o5 + j, none⟩) hb5).trans (hc5 j (by omega))
        rw [List.getD_eq_getElem?_getD, hO, Option.getD_some] at r5
        have hcl : Col o := col_of HL5.out (List.mem_of_getElem? hO)
        have HQ2 := hid (HQJ.out (Q.set j o) true hin (fun k hk => by rw [List.getElem?_set, if_neg (fun e => hk e.symm)]) (by rw [if_pos rfl, hO, List.getElem?_set, if_pos rfl, if_pos (by have := HP5.out.len; omega)]))
        have HP6 := hid (HP5.out.set j hcl)
        have HK6 := hid (HK5.out.set ⟨g, j, none⟩ (by simp) (.int .u32 o))
        have d5 := HP5.out.cell hZ
        have f5 := HP5.out.fz j
        have hj5 : (j : Int) < n5 := by omega
        clear hin HQJ HQN HQ HP4 HK4 HWY HP5 HK5 hc5 hO hZ hcl hb5 hl5
        go_wp2
        go_roundw
        case rel => exact ⟨j + 1, Q.set j o, by go_num, by omega, HP6.out, HK6.out, HQ2.out⟩
        case measure => simp [numOf]; omega
    · have t1 : decide ((j : Int) < 30) = false := decide_eq_false (by omega)
      obtain ⟨x4, rfl⟩ : ∃ x, x = wr := ⟨_, rfl⟩
      have HQE : Hid (∀ k : Nat, k < 30 → inC [r] ((k % 6 : Nat) : Int) ((k / 6 : Nat) : Int) = false → Q[k]? = P[k]?) := fun k hk hin => by rw [HQ.out k hk, if_neg (by rw [hin]; simp)]
      have HB4 := hid (bel_kp HB2.out HK4.out HB2.out.size (fun k hk => by simp only [List.mem_cons, List.not_mem_nil, or_false] at hk; omega))
      have HR4 := hid (HR2.out.kp HK4.out (by simp only [List.mem_singleton]; omega))
      have hgl := HP4.out.lt
      have hws := HB4.out.size
      clear HQ HK4 HR2 HB2 HL5 HL4
      obtain ⟨px, hpx⟩ : ∃ px : Int, (mx : Int) - 8 = px := ⟨_, rfl⟩
      obtain ⟨py, hpy⟩ : ∃ py : Int, (my : Int) - 6 = py := ⟨_, rfl⟩
      have ix : -8 ≤ px ∧ px ≤ 11 := by omega
      have iy : -6 ≤ py ∧ py ≤ 9 := by omega
      have HVV : Hid (∀ y ∈ [[4, 9, px, py, 6, 5]], ∀ z ∈ y, I64 z) := fun y hy z hz => by
        obtain rfl := List.mem_singleton.1 hy
        simp only [List.mem_cons, List.not_mem_nil, or_false] at hz
        unfold I64
        omega
      have HVO : Hid (∀ y ∈ [[4, 9, px, py, 6, 5]], (vrc y).Ok) := fun y hy => vrc_ok (HVV.out y hy)
      go_wp2_with fail
      refine (HPX.out _).mono ?_
      rintro e uu ⟨rfl, hu⟩
      obtain rfl := hu.symm
      go_wp2_with fail
      refine (HPY.out _).mono ?_
      rintro e uu ⟨rfl, hu⟩
      obtain rfl := hu.symm
      have hbV := bel_new x4 (.cells #[.int .i64 4, .int .i64 9, .int .i64 px, .int .i64 py, .int .i64 6, .int .i64 5] 32)
      have HV5 := hid (bk_new x4 #[.int .i64 4, .int .i64 9, .int .i64 px, .int .i64 py, .int .i64 6, .int .i64 5] 32)
      have HB5 := hid (Below.on HB4.out hbV)
      have HP5 := hid (HP4.out.on hbV)
      have HR5 := hid (HR4.out.on hbV)
      obtain ⟨v, hv⟩ : ∃ v, x4.heap.size = v := ⟨_, rfl⟩
      have hvl : v < (x4.alloc (.cells #[.int .i64 4, .int .i64 9, .int .i64 px, .int .i64 py, .int .i64 6, .int .i64 5] 32)).heap.size := by rw [← hv]; simp
      rw [hv] at HV5 hgl hws
      clear hbV HB4 HP4 HR4 HPX HPY
      go_wp2_with fail
      refine (CW.out _).mono ?_
      rintro e x5 ⟨p, b, rfl, hb5, hC, hp, hb⟩
      have HCV := hid hC
      have HV6 := hid (HV5.out.on hb5)
      have HB6 := hid (Below.on HB5.out hb5)
      have HP6 := hid (HP5.out.on hb5)
      have HR6 := hid (HR5.out.on hb5)
      have hpb := hC.lt
      clear hb5 hC HV5 HB5 HP5 HR5 CW hpx hpy
      have hbI := bel_new x5 (.cells #[.int .i64 9, .int .i64 6, .int .i64 5, .slice (some ⟨b4, o4, none⟩) 30 c4] 41)
      have hI := rdg_one (U := x5.alloc (.cells #[.int .i64 9, .int .i64 6, .int .i64 5, .slice (some ⟨b4, o4, none⟩) 30 c4] 41)) (p := x5.heap.size) (T := 41) (g := ⟨9, 6, 5, some ⟨b4, o4, none⟩, 30, c4, P⟩) (bk_new x5 _ _) ⟨show I64 9 by rw [I64]; decide, show I64 6 by rw [I64]; decide, show I64 5 by rw [I64]; decide, (HPP.out.on HB6.out).on hbI⟩
      have HI7 := hid hI
      have HB7 := hid (Below.on HB6.out hbI)
      have HP7 := hid (HP6.out.on hbI)
      have HR7 := hid (HR6.out.on hbI)
      have HV7 := hid (HV6.out.on hbI)
      have HC7 := hid (HCV.out.on hbI)
      have hb4b : b4 < w.heap.size := hlow4 _ rfl
      clear hbI hI HB6 HP6 HR6 HV6 HCV
      go_wp2_with fail
      refine (pall_any HC7.out a0 hc (some ⟨v, 0, none⟩) 1 1 [[4, 9, px, py, 6, 5]] (rdm_one HV7.out) HVV.out (fun _ x hx => by cases hx; dsimp only; omega) (some ⟨x5.heap.size, 0, none⟩) 1 1 [⟨9, 6, 5, some ⟨b4, o4, none⟩, 30, c4, P⟩] HI7.out ⟨fun _ x hx => by cases hx; simp only [List.mem_singleton]; omega, fun y hy _ x hx => by obtain rfl := List.mem_singleton.1 hy; cases hx; simp only [List.mem_singleton]; omega⟩ (fun y hy => by obtain rfl := List.mem_singleton.1 hy; dsimp only; omega)).mono ?_
      rintro e x8 ⟨rfl, hC8, hk8⟩
      have HC8 := hid hC8
      have HV8 := hid (HV7.out.kp hk8 (by simp only [List.mem_singleton]; omega))
      have HP8 := hid (HP7.out.kp hk8 (by simp only [List.mem_singleton]; omega))
      have HR8 := hid (HR7.out.kp hk8 (by simp only [List.mem_singleton]; omega))
      have HB8 := hid (bel_kp HB7.out hk8 HB7.out.size (fun k hk => by simp only [List.mem_cons, List.not_mem_nil, or_false] at hk; omega))
      rw [show ([⟨9, 6, 5, some ⟨b4, o4, none⟩, 30, c4, P⟩] : List Gv).map gcl = [⟨9, 6, 5, P⟩] from rfl] at HC8
      clear hC8 hk8 HC7 HV7 HP7 HR7 HI7 HB7
      obtain ⟨L, hL⟩ : ∃ L, pnc W a0 [ara W H] [[4, 9, px, py, 6, 5]] [⟨9, 6, 5, P⟩] (List.replicate (W * H) 0) = L := ⟨_, rfl⟩
      have hLL : L.length = W * H := by rw [← hL, pnc_length]; simp
      have HLD := hid hL
      rw [hL] at HC8
      clear hL
      go_wp2_with fail
      refine (ccopy_any HC8.out).mono ?_
      rintro e x9 ⟨q, d, rfl, hb9, hC9, hq, hd⟩
      have hpl := HC8.out.lt
      have hs8 := HB8.out.size
      have HD9 : Hid (Duo w x9 p b q d W H L L) := ⟨HC8.out.on hb9, hC9, by omega, by omega, by omega, by omega, by omega, Below.on HB8.out hb9⟩
      have HV9 := hid (HV8.out.on hb9)
      have HP9 := hid (HP8.out.on hb9)
      have HR9 := hid (HR8.out.on hb9)
      have hv8 := HV8.out.lt
      have hg8 := HP8.out.lt
      clear hb9 hC9 HC8 HV8 HP8 HR8 HB8
      have hbJ := bel_new x9 (.cells #[.int .i64 9, .int .i64 6, .int .i64 5, .slice (some ⟨g, 0, none⟩) 30 cq] 41)
      have hJ := rdg_one (U := x9.alloc (.cells #[.int .i64 9, .int .i64 6, .int .i64 5, .slice (some ⟨g, 0, none⟩) 30 cq] 41)) (p := x9.heap.size) (T := 41) (g := ⟨9, 6, 5, some ⟨g, 0, none⟩, 30, cq, Q⟩) (bk_new x9 _ _) ⟨show I64 9 by rw [I64]; decide, show I64 6 by rw [I64]; decide, show I64 5 by rw [I64]; decide, HP9.out.rd.on hbJ⟩
      have HJ10 := hid hJ
      have HD10 := hid (HD9.out.on hbJ)
      have HP10 := hid (HP9.out.on hbJ)
      have HR10 := hid (HR9.out.on hbJ)
      have HV10 := hid (HV9.out.on hbJ)
      have hlt9 := HD9.out.cv.lt
      have hld9 := HD9.out.dv.lt
      clear hbJ hJ HD9 HP9 HR9 HV9
      go_wp2_with fail
      refine (pall_any HD10.out.dv a0 hc (some ⟨v, 0, none⟩) 1 1 [[4, 9, px, py, 6, 5]] (rdm_one HV10.out) HVV.out (fun _ x hx => by cases hx; dsimp only; omega) (some ⟨x9.heap.size, 0, none⟩) 1 1 [⟨9, 6, 5, some ⟨g, 0, none⟩, 30, cq, Q⟩] HJ10.out ⟨fun _ x hx => by cases hx; simp only [List.mem_singleton]; omega, fun y hy _ x hx => by obtain rfl := List.mem_singleton.1 hy; cases hx; simp only [List.mem_singleton]; omega⟩ (fun y hy => by obtain rfl := List.mem_singleton.1 hy; dsimp only; omega)).mono ?_
      rintro e x11 ⟨rfl, hC11, hk11⟩
      have HD11 := hid (HD10.out.two hk11 hC11)
      have HV11 := hid (HV10.out.kp hk11 (by simp only [List.mem_singleton]; omega))
      have HP11 := hid (HP10.out.kp hk11 (by simp only [List.mem_singleton]; omega))
      have HR11 := hid (HR10.out.kp hk11 (by simp only [List.mem_singleton]; omega))
      have HJ11 := hid (HJ10.out.kp hk11 ⟨fun _ x hx => by cases hx; simp only [List.mem_singleton]; omega, fun y hy _ x hx => by obtain rfl := List.mem_singleton.1 hy; cases hx; simp only [List.mem_singleton]; omega⟩)
      rw [show ([⟨9, 6, 5, some ⟨g, 0, none⟩, 30, cq, Q⟩] : List Gv).map gcl = [⟨9, 6, 5, Q⟩] from rfl] at HD11
      clear hC11 hk11 HD10 HV10 HP10 HR10 HJ10
      have hrg := HR11.out.all
      obtain ⟨q0, q1, q2, q3⟩ := hrg
      have hbA := below_new x11 (ob r)
      have hRL := rdc_lit x11 r OK.out
      rw [ob] at hbA
      have hD := rdd_one _ 47 (d := ⟨4, some ⟨x11.heap.size, 0, none⟩, 1, 1, [r]⟩) ⟨show I64 4 by rw [I64]; decide, hRL⟩
      have hbB := Below.on hbA (bel_new _ (.cells (dvv ⟨4, some ⟨x11.heap.size, 0, none⟩, 1, 1, [r]⟩) 47))
      rw [size_new] at hD
      simp only [dvv] at hD hbB
      have HDI := hid hD
      have HD12 := hid (HD11.out.on hbB)
      have HV12 := hid (HV11.out.on hbB)
      have HJ12 := hid (HJ11.out.on hbB)
      clear hD hbA hbB hRL HR11 HP11
      have hv11 := HV12.out.lt
      go_wp2_with fail
      refine (qchanged_any (some ⟨v, 0, none⟩) 1 1 [[4, 9, px, py, 6, 5]] (some ⟨v, 0, none⟩) 1 1 [[4, 9, px, py, 6, 5]] _ 1 1 [⟨4, some ⟨x11.heap.size, 0, none⟩, 1, 1, [r]⟩] _ (rdm_one HV12.out) (rdm_one HV12.out) HDI.out HVO.out HVO.out (by omega) (by omega) (by omega) (by simp)).mono ?_
      rintro e x13 ⟨a13, c13, rfl, h13, hb13⟩
      rw [show ([⟨4, some ⟨x11.heap.size, 0, none⟩, 1, 1, [r]⟩] : List Dv).map ddl = [(nm5 0 [4, 9, px, py, 6, 5], [r])] from rfl, chl_one] at h13 ⊢
      have H13 := hid h13
      have HD13 := hid (HD12.out.on hb13)
      have HV13 := hid (HV12.out.on hb13)
      have HJ13 := hid (HJ12.out.on hb13)
      clear h13 hb13 HD12 HV12 HJ12 HDI q0 q1 q2 q3
      have hdl := dfl_len [spt [4, 9, px, py, 6, 5] r]
      have HWH : Hid (pnc W a0 (dfl [spt [4, 9, px, py, 6, 5] r]) [[4, 9, px, py, 6, 5]] [⟨9, 6, 5, Q⟩] L = pnc W a0 [ara W H] [[4, 9, px, py, 6, 5]] [⟨9, 6, 5, Q⟩] L) := by
        have hk : Ck (vrc [4, 9, px, py, 6, 5]) := ⟨by show (1 : Int) ≤ 6; decide, by show (1 : Int) ≤ 5; decide, by show _ ≤ px; omega, by show _ ≤ py; omega, by show px + 6 ≤ _; omega, by show py + 5 ≤ _; omega⟩
        have one : ∀ (l : List Int) (x : Im), imf (nm5 1 [4, 9, px, py, 6, 5]) [⟨9, 6, 5, l⟩] = some x → x = ⟨9, 6, 5, l⟩ := fun l x h => imf_one h
        rw [Hid]
        conv => lhs; rw [← HLD.out]
        refine rp_dirty (H := H) (by omega) (by omega) hk (fun x h => by rw [one P x h]; exact ⟨rfl, rfl⟩) (fun x h => by rw [one Q x h]; exact ⟨rfl, rfl⟩) rfl (fun x x' u s h h' hh hn => ?_) (by simp) hLL (fun u s hu hs => inC_ara hW1 hH1 hu hs)
        rw [one P x h, one Q x' h']
        rw [has_iff] at hh
        have h1 : px ≤ u ∧ u < px + 6 ∧ py ≤ s ∧ s < py + 5 := by
          simp only [vrc, nm5, List.getD_eq_getElem?_getD, List.getElem?_cons_succ, List.getElem?_cons_zero, Option.getD_some] at hh
          omega
        obtain ⟨k1, k2, k3⟩ := kk_six (x := px) (y := py) (u := u) (v := s) ⟨h1.1, h1.2.1⟩ ⟨h1.2.2.1, h1.2.2.2⟩
        show P[kk px py 6 u s]? = Q[kk px py 6 u s]?
        refine (HQE.out _ k1 ?_).symm
        rw [k2, k3]
        simp only [inC, List.any_cons, List.any_nil, Bool.or_false]
        exact hn
      generalize dfl [spt [4, 9, px, py, 6, 5] r] = D at H13 hdl HWH ⊢
      go_wp2_with fail
      refine (qpart_any HD13.out.cv a0 hc (some ⟨v, 0, none⟩) 1 1 [[4, 9, px, py, 6, 5]] (rdm_one HV13.out) HVV.out (fun _ x hx => by cases hx; dsimp only; omega) (some ⟨x9.heap.size, 0, none⟩) 1 1 [⟨9, 6, 5, some ⟨g, 0, none⟩, 30, cq, Q⟩] HJ13.out ⟨fun _ x hx => by cases hx; simp only [List.mem_singleton]; omega, fun y hy _ x hx => by obtain rfl := List.mem_singleton.1 hy; cases hx; simp only [List.mem_singleton]; omega⟩ (fun y hy => by obtain rfl := List.mem_singleton.1 hy; dsimp only; omega) a13 _ c13 D H13.out (by omega)).mono ?_
      rintro e x14 ⟨rfl, hC14, hk14⟩
      rw [show ([⟨9, 6, 5, some ⟨g, 0, none⟩, 30, cq, Q⟩] : List Gv).map gcl = [⟨9, 6, 5, Q⟩] from rfl, HWH.out] at hC14
      have HD14 := hid (HD13.out.one hk14 hC14)
      generalize pnc W a0 [ara W H] [[4, 9, px, py, 6, 5]] [⟨9, 6, 5, Q⟩] L = M at HD14
      clear hC14 hk14 HD13 HV13 HJ13 H13 HWH HLD hLL HQE HVV HVO HPP
      go_wp2_with fail
      refine (pixels_any HD14.out.cv).mono ?_
      rintro e x15 ⟨g', rfl, hg', hOw, hb15⟩
      rw [HN.out] at hOw ⊢
      have HD15 := hid (HD14.out.on hb15)
      obtain ⟨a9, c9, e9, hR9, _⟩ := rdw_of_owns hOw HD14.out.cv.col
      cases e9
      have HR15 := hid hR9
      clear hOw hb15 hR9 HD14
      go_wp2_with fail
      refine (pixels_any HD15.out.dv).mono ?_
      rintro e x16 ⟨g'', rfl, hg'', hOw, hb16⟩
      rw [HN.out] at hOw ⊢
      have HD16 := hid (HD15.out.on hb16)
      have HR16 := hid (HR15.out.on hb16)
      obtain ⟨a8, c8, e8, hR8, _⟩ := rdw_of_owns hOw HD15.out.dv.col
      cases e8
      have HS16 := hid hR8
      clear hOw hb16 hR8 HD15 HR15
      go_wp2_with fail
      refine (samew_any _ _ _ _ _ M _ HR16.out HS16.out (by omega)).mono ?_
      rintro e x17 ⟨rfl, hb17⟩
      have HD17 := hid (HD16.out.on hb17)
      clear hb17 HD16 HR16 HS16
      go_wp2_with fail
      refine (qawake24_any _).mono ?_
      rintro e x18 ⟨rfl, hb18⟩
      have HD18 := hid (HD17.out.on hb18)
      go_wp2
      go_ret
      exact ⟨rfl, HD18.out.bel⟩
end Go.Proofs.YtmiapccngeafkaaDoor.repaintDirty
