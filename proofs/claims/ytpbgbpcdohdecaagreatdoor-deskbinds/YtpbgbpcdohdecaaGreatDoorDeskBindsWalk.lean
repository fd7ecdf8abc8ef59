/- DeskBinds' walk. -/
import Derived.Test.YtpbgbpcdohdecaaGreatDoorB42
set_option linter.unusedSimpArgs false
namespace Go.Proofs.YtpbgbpcdohdecaaGreatDoor.deskBinds
open Go Go.RowKit

section
variable {es : List Addr} {w : World}
theorem l20_ok {n K v : Int} (hn : 0 ≤ n ∧ n ≤ 6) (hK : 1 ≤ K ∧ K ≤ 17) (hv : 0 ≤ v ∧ v ≤ 6) : ∀ x ∈ l20 n K v, x.Ok := fun x hx => by
  obtain ⟨j, hj⟩ := fin_of hK
  have h3 := (nmS_ok j).2.2
  rw [← hj] at h3
  simp only [l20, List.mem_cons, List.not_mem_nil, or_false] at hx
  rcases hx with rfl | rfl | rfl | rfl
  · exact ⟨by simp [anm], by simp only [anm]; omega, by simp only [anm]; omega, by show (⟨#[]⟩ : ByteArray).size ≤ maxLen; decide⟩
  · exact ⟨by simp, by simp, by simp, by simp only [ByteArray.size, List.size_toArray, maxLen]; omega⟩
  · exact ⟨by simp [anm], by simp only [anm]; omega, by simp only [anm]; omega, by show (⟨#[]⟩ : ByteArray).size ≤ maxLen; decide⟩
  · exact ⟨by decide, by decide, by decide, by decide⟩
theorem small_20 {n K v : Int} (hK : 1 ≤ K ∧ K ≤ 17) : Small (l20 n K v) := fun x hx => by
  obtain ⟨j, hj⟩ := fin_of hK
  have h3 := (nmS_ok j).2.2
  rw [← hj] at h3
  simp only [l20, List.mem_cons, List.not_mem_nil, or_false] at hx
  rcases hx with rfl | rfl | rfl | rfl
  · show (⟨#[]⟩ : ByteArray).size ≤ 140737488355328
    decide
  · simp only [ByteArray.size, List.size_toArray]
    omega
  · show (⟨#[]⟩ : ByteArray).size ≤ 140737488355328
    decide
  · decide
theorem rda_20 (u : World) {n K v : Int} (hn : 0 ≤ n ∧ n ≤ 6) (hK : 1 ≤ K ∧ K ≤ 17) (hv : 0 ≤ v ∧ v ≤ 6) : RdA (u.alloc (.cells #[.int .u8 117, .int .i64 n, .string ⟨#[]⟩, .int .u8 115, .int .i64 0, .string ⟨(nmS K).toArray⟩, .int .u8 117, .int .i64 v, .string ⟨#[]⟩, .int .u8 110, .int .i64 9, .string ⟨#[]⟩] 34)) (some ⟨u.heap.size, 0, none⟩) 4 4 (l20 n K v) :=
  rda_mk u (l20 n K v) 34 (by simp [l20]) (l20_ok hn hK hv)
theorem wfi {z : Int} (h : (Lit.int .i64 z).wf = true) : -9223372036854775808 ≤ z ∧ z ≤ 9223372036854775807 := by simpa [Lit.wf, IntKind.min, IntKind.max, IntKind.signed, IntKind.bits] using h
theorem kR_ev (j : Nat) (hj : j < 5) : kR.ev[j]? = some (regE 2 j) := by
  match j, hj with
  | 0, _ | 1, _ | 2, _ | 3, _ | 4, _ => rfl
set_option maxRecDepth 100000 in
set_option maxHeartbeats 80000000 in
theorem core (a0 a1 a2 : Int) (w : World) (w0 : (Lit.int .i64 a0).wf = true) (w1 : (Lit.int .i64 a1).wf = true) (w2 : (Lit.int .i64 a2).wf = true) (hA : All w es) (hG : Glb w) (hg : 16 ≤ w.heap.size) :
    Calls Tryz.prog 3 #[.int .i64 a0, .int .i64 a1, .int .i64 a2] w fun e w' => e = .returned (.bool true) ∧ Below w.heap.size w w' := by
  obtain ⟨N, hN⟩ : ∃ N : Int, ((plc_WireK a0 7 : Nat) : Int) = N := ⟨_, rfl⟩
  obtain ⟨V, hV⟩ : ∃ V : Int, ((plc_WireK a2 7 : Nat) : Int) = V := ⟨_, rfl⟩
  obtain ⟨k, hk⟩ : ∃ k : Int, ((plc_WireK a1 17 : Nat) : Int) = k := ⟨_, rfl⟩
  have q1 := plc_lt_WireK a0 7 (by decide)
  have q2 := plc_lt_WireK a1 17 (by decide)
  have q3 := plc_lt_WireK a2 7 (by decide)
  obtain ⟨K, hK⟩ : ∃ K : Int, 1 + k = K := ⟨_, rfl⟩
  have b1 : 0 ≤ N ∧ N ≤ 6 := by omega
  have b2 : 0 ≤ V ∧ V ≤ 6 := by omega
  have b3 : 0 ≤ k ∧ k ≤ 16 := by omega
  have b4 : 1 ≤ K ∧ K ≤ 17 := by omega
  have HNB := hid b1
  have HVB := hid b2
  have HKZ := hid b3
  have HKB := hid b4
  have HN0 := hid hN
  have HV0 := hid hV
  have HK0 := hid hk
  have hKK := hid hK
  clear hN hV hk q1 q2 q3 hK b1 b2 b3 b4
  have HA := hid hA
  have HE := hid hA.errs
  have HG := hid hG
  have HGG := hid hg
  have HNW := hid (sd_new (Below.refl _ _) hA.errs hg 2 2 (by decide) (by decide))
  clear hA hG hg
  go_enter Tryz.func3, Tryz.ntmps3
  go_wp2_with fail
  refine HNW.out.mono ?_
  rintro e u1 ⟨a, rfl, ha, hS⟩
  have HCN := hid (sd_conn hS ha)
  clear HNW hS ha
  go_wp2_with fail
  refine HCN.out.mono ?_
  rintro e u2 ⟨a', ha', rfl, hO, hS⟩
  have HO := hid hO
  have HS := hid hS
  clear HCN hO hS
  go_wp2_with fail
  refine (n_any 2 _).mono ?_
  rintro e u5 ⟨rfl, hb5⟩
  have hS5 := HS.out.on hb5
  have hRW := raw_any 1 1 _ 1 1 l11 (rda_11 u5) (by decide) small_11 l11_put
  have HS5 := hid (hS5.on (bel_mkR u5 (.cells #[.int .u8 110, .int .i64 2, .string ⟨#[]⟩] 34)))
  have HRW := hid hRW
  clear hS5 hRW hb5 HS
  go_wp2_with fail
  refine HRW.out.mono ?_
  rintro e u6 ⟨rfl, hb6⟩
  have hRG := sd_reg HA.out HE.out HG.out (HS5.out.on hb6) HO.out (by decide)
  rw [ha'] at hRG
  have HRG := hid hRG
  clear hRG hb6 HS5 HRW
  go_wp2_with fail
  refine HRG.out.mono ?_
  rintro e u7 ⟨rfl, hS⟩
  have hv1 := heap_alloc_new u7 (.cells #[.int .i64 4, .int .i64 5, .int .i64 10, .int .i64 12, .int .i64 15] 36)
  have hb1 := bel_mkR u7 (.cells #[.int .i64 4, .int .i64 5, .int .i64 10, .int .i64 12, .int .i64 15] 36)
  have hv2 := heap_alloc_new (u7.alloc (.cells #[.int .i64 4, .int .i64 5, .int .i64 10, .int .i64 12, .int .i64 15] 36)) (.cells #[.int .i64 4, .int .i64 1, .int .i64 1, .int .i64 5, .int .i64 1] 36)
  have hb2 := bel_mkR (u7.alloc (.cells #[.int .i64 4, .int .i64 5, .int .i64 10, .int .i64 12, .int .i64 15] 36)) (.cells #[.int .i64 4, .int .i64 1, .int .i64 1, .int .i64 5, .int .i64 1] 36)
  have hv1' := (kp_of_below hb2 []).var hv1 (by simp)
  rw [World.size_alloc] at hv2
  have hEV := sd_evf hS (Below.on hb1 hb2)
  rw [ha'] at hEV
  have HEV := hid hEV
  have HV1 := hid hv1'
  have HV2 := hid hv2
  clear HRG hS hEV hv1 hb1 hv2 hb2 hv1'
  go_wp2_with fail
  generalize ((u7.alloc (.cells #[.int .i64 4, .int .i64 5, .int .i64 10, .int .i64 12, .int .i64 15] 36)).alloc (.cells #[.int .i64 4, .int .i64 1, .int .i64 1, .int .i64 5, .int .i64 1] 36)) = W at *
  refine HEV.out.mono ?_
  rintro e u8 ⟨⟨x, c, rfl, hR⟩, hS, hkeep⟩
  have hv1 := hkeep _ _ (Nat.le_refl _) HV1.out
  have hv2 := hkeep _ _ (Nat.le_succ _) HV2.out
  have HS8 := hid hS
  have HR := hid hR
  have HV1' := hid hv1
  have HV2' := hid hv2
  have hc1 := hR.le
  have hc2 := hR.max
  have hl : kR.ev.length = 5 := rfl
  rw [hl] at hc1 HR ⊢
  clear HEV HV1 HV2 hS hkeep hv1 hv2 hR
  go_wp2_with fail
  generalize u7.heap.size = B at *
  go_loopw [14] (fun k wr => ∃ j : Nat, k = .int .i64 j ∧ j ≤ 5 ∧ Below u8.heap.size u8 wr) (fun k _ => 5 - (numOf k).toNat)
  case atStart => exact ⟨0, rfl, by omega, Below.refl _ _⟩
  case round =>
    obtain ⟨j, rfl, hj, hb⟩ := hrel
    have HW := hid hb
    by_cases hgo : j < 5
    · have e1 : decide ((j : Int) < 5) = true := decide_eq_true (by omega)
      have he : kR.ev[j]? = some (regE 2 j) := kR_ev j hgo
      obtain ⟨g, y, m, kc, rfl, lg, _, _, ce1, ce2, ce3, hrd⟩ := (HR.out.on hb).el he
      rw [Nat.mul_comm] at ce1 ce2 ce3
      have ce1 : wr.cell? ⟨g, j * 4 + 1, none⟩ = some (.int .i64 2) := ce1
      have ce2 : wr.cell? ⟨g, j * 4 + 2, none⟩ = some (.int .i64 0) := ce2
      have hm1 := (kp_of_below hb []).var HV1'.out (by simp)
      have hm2 := (kp_of_below hb []).var HV2'.out (by simp)
      have fa1 : wr.cell? ⟨B, j, none⟩ = some (.int .i64 (glF j)) := by
        rw [Lib.cell_of_heap hm1]
        match j, hgo with
        | 0, _ | 1, _ | 2, _ | 3, _ | 4, _ => rfl
      have fa2 : wr.cell? ⟨B + 1, j, none⟩ = some (.int .i64 (glV j)) := by
        rw [Lib.cell_of_heap hm2]
        match j, hgo with
        | 0, _ | 1, _ | 2, _ | 3, _ | 4, _ => rfl
      have lb1 : B < wr.heap.size := (Array.getElem?_eq_some_iff.1 hm1).1
      have lb2 : B + 1 < wr.heap.size := (Array.getElem?_eq_some_iff.1 hm2).1
      have kj : (j : Int) < 5 := by omega
      have kw : IntKind.i64.wrap ((j : Int) + 1) = (j : Int) + 1 := by
        match j, hgo with
        | 0, _ | 1, _ | 2, _ | 3, _ | 4, _ => rfl
      have HRD := hid hrd
      have hml : m = 3 := hrd.len.symm
      subst hml
      clear hm1 hm2 hb he hrd
      go_wp2_with fail
      have hHeld := ((Below.refl _ _).drew : Below wr.heap.size wr wr.drew)
      refine wp_region_held_drew (S := fun x0 => Below wr.heap.size wr x0) (by kernel_rfl) hHeld (fun _ => ?_)
      refine wpAnyH_take (i := 0) (v := ?_) rfl (by kernel_rfl) (by kernel_rfl) (by kernel_rfl) (fun _ _ _ h => h) (Or.inl ⟨by kernel_rfl, ?hy0⟩) (by assumption) ?_
      case hy0 => (intro w hSw; (try dsimp only at hSw); have k1 : (j : Int) < 5 := kj; have k2 : (j : Int) < 5 := kj; have t1 := (hSw.cell lg).trans ce1; have t2 := (hSw.cell lg).trans ce2; have t3 := (hSw.cell lg).trans ce3; have t4 := (hSw.cell lb1).trans fa1; have t5 := (hSw.cell lb2).trans fa2; go_simp; (try rw [if_pos k1]); (try rw [if_pos k2]); try with_reducible rfl)
      try simp only [Act.put, List.getElem_toArray, List.getElem_cons_zero, List.setIfInBounds_toArray, List.set_cons_zero, List.set_cons_succ]
      refine wpAnyH_take (i := 1) (v := ?_) rfl (by kernel_rfl) (by kernel_rfl) (by kernel_rfl) (fun _ _ _ h => h) (Or.inl ⟨by kernel_rfl, ?hy1⟩) (by assumption) ?_
      case hy1 => (intro w hSw; (try dsimp only at hSw); have k1 : (j : Int) < 5 := kj; have k2 : (j : Int) < 5 := kj; have t1 := (hSw.cell lg).trans ce1; have t2 := (hSw.cell lg).trans ce2; have t3 := (hSw.cell lg).trans ce3; have t4 := (hSw.cell lb1).trans fa1; have t5 := (hSw.cell lb2).trans fa2; go_simp; (try rw [if_pos k1]); (try rw [if_pos k2]); try with_reducible rfl)
      try simp only [Act.put, List.getElem_toArray, List.getElem_cons_zero, List.getElem_cons_succ, List.setIfInBounds_toArray, List.set_cons_zero, List.set_cons_succ]
      refine wpAnyH_take (i := 2) (v := ?_) rfl (by kernel_rfl) (by kernel_rfl) (by kernel_rfl) (fun _ _ _ h => h) (Or.inl ⟨by kernel_rfl, ?hy2⟩) (by assumption) ?_
      case hy2 => (intro w hSw; (try dsimp only at hSw); have k1 : (j : Int) < 5 := kj; have k2 : (j : Int) < 5 := kj; have t1 := (hSw.cell lg).trans ce1; have t2 := (hSw.cell lg).trans ce2; have t3 := (hSw.cell lg).trans ce3; have t4 := (hSw.cell lb1).trans fa1; have t5 := (hSw.cell lb2).trans fa2; go_simp; (try rw [if_pos k1]); (try rw [if_pos k2]); try with_reducible rfl)
      try simp only [Act.put, List.getElem_toArray, List.getElem_cons_zero, List.getElem_cons_succ, List.setIfInBounds_toArray, List.set_cons_zero, List.set_cons_succ]
      refine wpAnyH_take (i := 3) (v := ?_) rfl (by kernel_rfl) (by kernel_rfl) (by kernel_rfl) (fun _ _ _ h => h) (Or.inl ⟨by kernel_rfl, ?hy3⟩) (by assumption) ?_
      case hy3 => (intro w hSw; (try dsimp only at hSw); have k1 : (j : Int) < 5 := kj; have k2 : (j : Int) < 5 := kj; have t1 := (hSw.cell lg).trans ce1; have t2 := (hSw.cell lg).trans ce2; have t3 := (hSw.cell lg).trans ce3; have t4 := (hSw.cell lb1).trans fa1; have t5 := (hSw.cell lb2).trans fa2; go_simp; (try rw [if_pos k1]); (try rw [if_pos k2]); try with_reducible rfl)
      try simp only [Act.put, List.getElem_toArray, List.getElem_cons_zero, List.getElem_cons_succ, List.setIfInBounds_toArray, List.set_cons_zero, List.set_cons_succ]
      refine wpAnyH_take (i := 4) (v := ?_) rfl (by kernel_rfl) (by kernel_rfl) (by kernel_rfl) (fun _ _ _ h => h) (Or.inl ⟨by kernel_rfl, ?hy4⟩) (by assumption) ?_
      case hy4 => (intro w hSw; (try dsimp only at hSw); have k1 : (j : Int) < 5 := kj; have k2 : (j : Int) < 5 := kj; have t1 := (hSw.cell lg).trans ce1; have t2 := (hSw.cell lg).trans ce2; have t3 := (hSw.cell lg).trans ce3; have t4 := (hSw.cell lb1).trans fa1; have t5 := (hSw.cell lb2).trans fa2; go_simp; (try rw [if_pos k1]); (try rw [if_pos k2]); try with_reducible rfl)
      try simp only [Act.put, List.getElem_toArray, List.getElem_cons_zero, List.getElem_cons_succ, List.setIfInBounds_toArray, List.set_cons_zero, List.set_cons_succ]
      refine wpAnyH_take (i := 5) (v := ?_) rfl (by kernel_rfl) (by kernel_rfl) (by kernel_rfl) (fun _ _ _ h => h) (Or.inl ⟨by kernel_rfl, ?hy5⟩) (by assumption) ?_
      case hy5 => (intro w hSw; (try dsimp only at hSw); have k1 : (j : Int) < 5 := kj; have k2 : (j : Int) < 5 := kj; have t1 := (hSw.cell lg).trans ce1; have t2 := (hSw.cell lg).trans ce2; have t3 := (hSw.cell lg).trans ce3; have t4 := (hSw.cell lb1).trans fa1; have t5 := (hSw.cell lb2).trans fa2; go_simp; (try rw [if_pos k1]); (try rw [if_pos k2]); try with_reducible rfl)
      try simp only [Act.put, List.getElem_toArray, List.getElem_cons_zero, List.getElem_cons_succ, List.setIfInBounds_toArray, List.set_cons_zero, List.set_cons_succ]
      refine wpAnyH_take (i := 6) (v := ?_) rfl (by kernel_rfl) (by kernel_rfl) (by kernel_rfl) (fun _ _ _ h => h) (Or.inl ⟨by kernel_rfl, ?hy6⟩) (by assumption) ?_
      case hy6 => (intro w hSw; (try dsimp only at hSw); have k1 : (j : Int) < 5 := kj; have k2 : (j : Int) < 5 := kj; have t1 := (hSw.cell lg).trans ce1; have t2 := (hSw.cell lg).trans ce2; have t3 := (hSw.cell lg).trans ce3; have t4 := (hSw.cell lb1).trans fa1; have t5 := (hSw.cell lb2).trans fa2; go_simp; (try rw [if_pos k1]); (try rw [if_pos k2]); try with_reducible rfl)
      try simp only [Act.put, List.getElem_toArray, List.getElem_cons_zero, List.getElem_cons_succ, List.setIfInBounds_toArray, List.set_cons_zero, List.set_cons_succ]
      refine wpAnyH_take (i := 8) (v := ?_) rfl (by kernel_rfl) (by kernel_rfl) (by kernel_rfl) (fun _ _ _ h => h) (Or.inl ⟨by kernel_rfl, ?hy8⟩) (by assumption) ?_
      case hy8 => (intro w hSw; (try dsimp only at hSw); have k1 : (j : Int) < 5 := kj; have k2 : (j : Int) < 5 := kj; have t1 := (hSw.cell lg).trans ce1; have t2 := (hSw.cell lg).trans ce2; have t3 := (hSw.cell lg).trans ce3; have t4 := (hSw.cell lb1).trans fa1; have t5 := (hSw.cell lb2).trans fa2; go_simp; (try rw [if_pos k1]); (try rw [if_pos k2]); try with_reducible rfl)
      try simp only [Act.put, List.getElem_toArray, List.getElem_cons_zero, List.getElem_cons_succ, List.setIfInBounds_toArray, List.set_cons_zero, List.set_cons_succ]
      refine wpAnyH_take (i := 9) (v := ?_) rfl (by kernel_rfl) (by kernel_rfl) (by kernel_rfl) (fun _ _ _ h => h) (Or.inl ⟨by kernel_rfl, ?hy9⟩) (by assumption) ?_
      case hy9 => (intro w hSw; (try dsimp only at hSw); have k1 : (j : Int) < 5 := kj; have k2 : (j : Int) < 5 := kj; have t1 := (hSw.cell lg).trans ce1; have t2 := (hSw.cell lg).trans ce2; have t3 := (hSw.cell lg).trans ce3; have t4 := (hSw.cell lb1).trans fa1; have t5 := (hSw.cell lb2).trans fa2; go_simp; (try rw [if_pos k1]); (try rw [if_pos k2]); try with_reducible rfl)
      try simp only [Act.put, List.getElem_toArray, List.getElem_cons_zero, List.getElem_cons_succ, List.setIfInBounds_toArray, List.set_cons_zero, List.set_cons_succ]
      refine wpAnyH_take (i := 10) (v := ?_) rfl (by kernel_rfl) (by kernel_rfl) (by kernel_rfl) (fun _ _ _ h => h) (Or.inl ⟨by kernel_rfl, ?hy10⟩) (by assumption) ?_
      case hy10 => (intro w hSw; (try dsimp only at hSw); have k1 : (j : Int) < 5 := kj; have k2 : (j : Int) < 5 := kj; have t1 := (hSw.cell lg).trans ce1; have t2 := (hSw.cell lg).trans ce2; have t3 := (hSw.cell lg).trans ce3; have t4 := (hSw.cell lb1).trans fa1; have t5 := (hSw.cell lb2).trans fa2; go_simp; (try rw [if_pos k1]); (try rw [if_pos k2]); try with_reducible rfl)
      try simp only [Act.put, List.getElem_toArray, List.getElem_cons_zero, List.getElem_cons_succ, List.setIfInBounds_toArray, List.set_cons_zero, List.set_cons_succ]
      refine wpAnyH_take (i := 13) (v := ?_) rfl (by kernel_rfl) (by kernel_rfl) (by kernel_rfl) (fun _ _ _ h => h) (Or.inl ⟨by kernel_rfl, ?hy13⟩) (by assumption) ?_
      case hy13 => (intro w hSw; (try dsimp only at hSw); have k1 : (j : Int) < 5 := kj; have k2 : (j : Int) < 5 := kj; have t1 := (hSw.cell lg).trans ce1; have t2 := (hSw.cell lg).trans ce2; have t3 := (hSw.cell lg).trans ce3; have t4 := (hSw.cell lb1).trans fa1; have t5 := (hSw.cell lb2).trans fa2; go_simp; (try rw [if_pos k1]); (try rw [if_pos k2]); try with_reducible rfl)
      try simp only [Act.put, List.getElem_toArray, List.getElem_cons_zero, List.getElem_cons_succ, List.setIfInBounds_toArray, List.set_cons_zero, List.set_cons_succ]
      refine wpAnyH_take (i := 14) (v := ?_) rfl (by kernel_rfl) (by kernel_rfl) (by kernel_rfl) (fun _ _ _ h => h) (Or.inl ⟨by kernel_rfl, ?hy14⟩) (by assumption) ?_
      case hy14 => (intro w hSw; (try dsimp only at hSw); have k1 : (j : Int) < 5 := kj; have k2 : (j : Int) < 5 := kj; have t1 := (hSw.cell lg).trans ce1; have t2 := (hSw.cell lg).trans ce2; have t3 := (hSw.cell lg).trans ce3; have t4 := (hSw.cell lb1).trans fa1; have t5 := (hSw.cell lb2).trans fa2; go_simp; (try rw [if_pos k1]); (try rw [if_pos k2]); try with_reducible rfl)
      try simp only [Act.put, List.getElem_toArray, List.getElem_cons_zero, List.getElem_cons_succ, List.setIfInBounds_toArray, List.set_cons_zero, List.set_cons_succ]
      refine wpAnyH_take (i := 15) (v := ?_) rfl (by kernel_rfl) (by kernel_rfl) (by kernel_rfl) (fun _ _ _ h => h) (Or.inl ⟨by kernel_rfl, ?hy15⟩) (by assumption) ?_
      case hy15 => (intro w hSw; (try dsimp only at hSw); have k1 : (j : Int) < 5 := kj; have k2 : (j : Int) < 5 := kj; have t1 := (hSw.cell lg).trans ce1; have t2 := (hSw.cell lg).trans ce2; have t3 := (hSw.cell lg).trans ce3; have t4 := (hSw.cell lb1).trans fa1; have t5 := (hSw.cell lb2).trans fa2; go_simp; (try rw [if_pos k1]); (try rw [if_pos k2]); try with_reducible rfl)
      try simp only [Act.put, List.getElem_toArray, List.getElem_cons_zero, List.getElem_cons_succ, List.setIfInBounds_toArray, List.set_cons_zero, List.set_cons_succ]
      refine wpAnyH_ready (rs := [7]) (by kernel_rfl) (by simp) ?_
      refine AllReadyH.cons rfl (fun K hK => ?_) AllReadyH.nil
      go_simp
      go_wp2_with fail
      refine (u_any ((j : Int) + 1) _).mono ?_
      rintro e u7 ⟨rfl, hb7⟩
      have hS7 := Below.on hHeld hb7
      refine hK.out _ _ hS7 (fun _ => ?_)
      clear hK K hHeld hb7
      have hHeld := hS7
      clear hS7
      try simp only [Act.put, List.getElem_toArray, List.getElem_cons_zero, List.getElem_cons_succ, List.setIfInBounds_toArray, List.set_cons_zero, List.set_cons_succ]
      refine wpAnyH_ready (rs := [11]) (by kernel_rfl) (by simp) ?_
      refine AllReadyH.cons rfl (fun K hK => ?_) AllReadyH.nil
      go_simp
      go_wp2_with fail
      refine (RefName_any _ _).mono ?_
      rintro e u11 ⟨rfl, hb11⟩
      have hS11 := Below.on hHeld hb11
      refine hK.out _ _ hS11 (fun _ => ?_)
      clear hK K hHeld hb11
      have hHeld := hS11
      clear hS11
      try simp only [Act.put, List.getElem_toArray, List.getElem_cons_zero, List.getElem_cons_succ, List.setIfInBounds_toArray, List.set_cons_zero, List.set_cons_succ]
      refine wpAnyH_ready (rs := [12]) (by kernel_rfl) (by simp) ?_
      refine AllReadyH.cons rfl (fun K hK => ?_) AllReadyH.nil
      go_simp
      go_wp2_with fail
      refine (s_any _ _).mono ?_
      rintro e u12 ⟨rfl, hb12⟩
      have hS12 := Below.on hHeld hb12
      refine hK.out _ _ hS12 (fun _ => ?_)
      clear hK K hHeld hb12
      have hHeld := hS12
      clear hS12
      try simp only [Act.put, List.getElem_toArray, List.getElem_cons_zero, List.getElem_cons_succ, List.setIfInBounds_toArray, List.set_cons_zero, List.set_cons_succ]
      refine wpAnyH_ready (rs := [16]) (by kernel_rfl) (by simp) ?_
      refine AllReadyH.cons rfl (fun K hK => ?_) AllReadyH.nil
      go_simp
      go_wp2_with fail
      refine (u_any _ _).mono ?_
      rintro e u16 ⟨rfl, hb16⟩
      have hS16 := Below.on hHeld hb16
      refine hK.out _ _ hS16 (fun _ => ?_)
      clear hK K hHeld hb16
      have hHeld := hS16
      clear hS16
      try simp only [Act.put, List.getElem_toArray, List.getElem_cons_zero, List.getElem_cons_succ, List.setIfInBounds_toArray, List.set_cons_zero, List.set_cons_succ]
      refine wpAnyH_ready (rs := [17]) (by kernel_rfl) (by simp) ?_
      refine AllReadyH.cons rfl (fun K hK => ?_) AllReadyH.nil
      go_simp
      (try simp only [kw])
      have hrw0 : RdA (u16.alloc (.cells #[.int .u8 117, .int .i64 ((j : Int) + 1), .string ⟨#[]⟩, .int .u8 115, .int .i64 0, .string ⟨(nmS (glF j)).toArray⟩, .int .u8 117, .int .i64 (glV j), .string ⟨#[]⟩] 34)) (some ⟨u16.heap.size, 0, none⟩) 3 3 (regE 2 j).l := rda_mk u16 (regE 2 j).l 34 (by simp [regE]) (regE_ok 2 j hgo)
      have HRW := hid hrw0
      clear hrw0
      have hS17 := Below.on hHeld (bel_mkR u16 (.cells #[.int .u8 117, .int .i64 ((j : Int) + 1), .string ⟨#[]⟩, .int .u8 115, .int .i64 0, .string ⟨(nmS (glF j)).toArray⟩, .int .u8 117, .int .i64 (glV j), .string ⟨#[]⟩] 34))
      generalize u16.alloc (.cells #[.int .u8 117, .int .i64 ((j : Int) + 1), .string ⟨#[]⟩, .int .u8 115, .int .i64 0, .string ⟨(nmS (glF j)).toArray⟩, .int .u8 117, .int .i64 (glV j), .string ⟨#[]⟩] 34) = V17 at *
      refine hK.out _ _ hS17 (fun _ => ?_)
      clear hK K hHeld
      have hHeld := hS17
      clear hS17
      try simp only [Act.put, List.getElem_toArray, List.getElem_cons_zero, List.getElem_cons_succ, List.setIfInBounds_toArray, List.set_cons_zero, List.set_cons_succ]
      refine wpAnyH_take (i := 18) (v := ?_) rfl (by kernel_rfl) (by kernel_rfl) (by kernel_rfl) (fun _ _ _ h => h) (Or.inl ⟨by kernel_rfl, ?hy18⟩) (by assumption) ?_
      case hy18 => (intro w hSw; (try dsimp only at hSw); have k1 : (j : Int) < 5 := kj; have k2 : (j : Int) < 5 := kj; have t1 := (hSw.cell lg).trans ce1; have t2 := (hSw.cell lg).trans ce2; have t3 := (hSw.cell lg).trans ce3; have t4 := (hSw.cell lb1).trans fa1; have t5 := (hSw.cell lb2).trans fa2; go_simp; (try rw [if_pos k1]); (try rw [if_pos k2]); try with_reducible rfl)
      try simp only [Act.put, List.getElem_toArray, List.getElem_cons_zero, List.getElem_cons_succ, List.setIfInBounds_toArray, List.set_cons_zero, List.set_cons_succ]
      refine wpAnyH_ready (rs := [19]) (by kernel_rfl) (by simp) ?_
      refine AllReadyH.cons rfl (fun K hK => ?_) AllReadyH.nil
      go_simp
      go_wp2_with fail
      refine (samemsg_eq 2 0 y _ 3 kc 3 (regE 2 j).l (HRD.out.kpz (kp_of_below hHeld []) (by simp)) HRW.out (by decide)).mono ?_
      rintro e u19 ⟨rfl, hb19⟩
      have hS19 := Below.on hHeld hb19
      refine hK.out _ _ hS19 (fun _ => ?_)
      clear hK K hHeld hb19
      have hHeld := hS19
      clear hS19
      try simp only [Act.put, List.getElem_toArray, List.getElem_cons_zero, List.getElem_cons_succ, List.setIfInBounds_toArray, List.set_cons_zero, List.set_cons_succ]
      refine wpAnyH_take (i := 20) (v := ?_) rfl (by kernel_rfl) (by kernel_rfl) (by kernel_rfl) (fun _ _ _ h => h) (Or.inl ⟨by kernel_rfl, ?hy20⟩) (by assumption) ?_
      case hy20 => (intro w hSw; (try dsimp only at hSw); have k1 : (j : Int) < 5 := kj; have k2 : (j : Int) < 5 := kj; have t1 := (hSw.cell lg).trans ce1; have t2 := (hSw.cell lg).trans ce2; have t3 := (hSw.cell lg).trans ce3; have t4 := (hSw.cell lb1).trans fa1; have t5 := (hSw.cell lb2).trans fa2; go_simp; (try rw [if_pos k1]); (try rw [if_pos k2]); try with_reducible rfl)
      try simp only [Act.put, List.getElem_toArray, List.getElem_cons_zero, List.getElem_cons_succ, List.setIfInBounds_toArray, List.set_cons_zero, List.set_cons_succ]
      refine wpAnyH_done (by kernel_rfl) ?_ _
      go_wp2_with fail
      go_roundw
      case rel => exact ⟨j + 1, by go_num, by omega, Below.on HW.out hHeld⟩
      case measure => simp [numOf]; omega
    · obtain rfl : j = 5 := by omega
      have e1 : decide (((5 : Nat) : Int) < 5) = false := by decide
      clear hb
      have HS9 := hid (HS8.out.on HW.out)
      have hb1 := (kp_of_below HW.out []).var HV1'.out (by simp)
      have hb2 := (kp_of_below HW.out []).var HV2'.out (by simp)
      have lb1 : B < wr.heap.size := (Array.getElem?_eq_some_iff.1 hb1).1
      have lb2 : B + 1 < wr.heap.size := (Array.getElem?_eq_some_iff.1 hb2).1
      have fa : ∀ j, j < 5 → wr.cell? ⟨B, j, none⟩ = some (.int .i64 (glF j)) := fun j hj => by
        rw [Lib.cell_of_heap hb1]
        match j, hj with
        | 0, _ | 1, _ | 2, _ | 3, _ | 4, _ => rfl
      have fb : ∀ j, j < 5 → wr.cell? ⟨B + 1, j, none⟩ = some (.int .i64 (glV j)) := fun j hj => by
        rw [Lib.cell_of_heap hb2]
        match j, hj with
        | 0, _ | 1, _ | 2, _ | 3, _ | 4, _ => rfl
      have HFA := hid fa
      have HFB := hid fb
      clear HW HV1' HV2' HS8 HR hb1 hb2 fa fb
      go_wp2_with fail
      refine (place_any_WireK a0 7 (wfi w0) (by decide) (by decide) _).mono ?_
      rintro e w3 ⟨rfl, rfl⟩
      rw [HN0.out]
      go_wp2_with fail
      refine (place_any_WireK a1 17 (wfi w1) (by decide) (by decide) _).mono ?_
      rintro e w3 ⟨rfl, rfl⟩
      rw [HK0.out]
      have hk0 := HKZ.out.1
      have hk1 := HKZ.out.2
      go_wp2_with fail
      refine (place_any_WireK a2 7 (wfi w2) (by decide) (by decide) _).mono ?_
      rintro e w3 ⟨rfl, rfl⟩
      rw [HV0.out]
      clear hk0 hk1 HN0 HK0 HV0 HKZ
      rw [hKK.out]
      have hNb := HNB.out
      have hVb := HVB.out
      by_cases h1 : 1 ≤ N
      · by_cases h5 : N ≤ 5
        · obtain ⟨j, hj⟩ : ∃ j : Nat, N = (j : Int) + 1 := ⟨(N - 1).toNat, by omega⟩
          have ej : (max (min N 5) 1).toNat - 1 = j := by omega
          have ej2 : (N - 1).toNat = j := by omega
          have fa0 : w3.cell? ⟨B, (max (min N 5) 1).toNat - 1, none⟩ = some (.int .i64 (glF (N - 1).toNat)) := by
            rw [ej, ej2]
            exact HFA.out j (by omega)
          have fb0 : w3.cell? ⟨B + 1, (max (min N 5) 1).toNat - 1, none⟩ = some (.int .i64 (glV (N - 1).toNat)) := by
            rw [ej, ej2]
            exact HFB.out j (by omega)
          clear HFA HFB ej ej2 hj
          by_cases hKF : glF (N - 1).toNat = K
          · by_cases hv1 : 1 ≤ V
            · have HV1B := hid hv1
              by_cases hv2 : V ≤ glV (N - 1).toNat
              · have HBB : Hid (bndB (l20 N K V) = true) := (by
                  rw [bnd_l20 HKB.out, decide_eq_true h1, decide_eq_true h5, decide_eq_true hKF, decide_eq_true hv1, decide_eq_true hv2]
                  rfl : bndB (l20 N K V) = true)
                generalize glF (N - 1).toNat = F at *
                generalize glV (N - 1).toNat = T at *
                have eKF : (F == K) = true := by simpa using hKF
                go_wp2_with fail
                refine (u_any _ _).mono ?_
                rintro e x1 ⟨rfl, hb1⟩
                have HX1 := hid (HS9.out.on hb1)
                clear hb1
                go_wp2_with fail
                refine (RefName_any _ _).mono ?_
                rintro e x2 ⟨rfl, hb2⟩
                have HX2 := hid (HX1.out.on hb2)
                clear hb2 HX1
                go_wp2_with fail
                refine (s_any _ _).mono ?_
                rintro e x3 ⟨rfl, hb3⟩
                have HX3 := hid (HX2.out.on hb3)
                clear hb3 HX2
                go_wp2_with fail
                refine (u_any _ _).mono ?_
                rintro e x4 ⟨rfl, hb4⟩
                have HX4 := hid (HX3.out.on hb4)
                clear hb4 HX3
                go_wp2_with fail
                refine (n_any 9 _).mono ?_
                rintro e x5 ⟨rfl, hb5⟩
                have hrw := raw_any 2 0 _ 4 4 (l20 N K V) (rda_20 x5 HNB.out HKB.out HVB.out) (by decide) (small_20 HKB.out) (l20_put HNB.out HKB.out HVB.out)
                have HRW := hid hrw
                have HX5 := hid ((HX4.out.on hb5).on (bel_mkR x5 (.cells #[.int .u8 117, .int .i64 N, .string ⟨#[]⟩, .int .u8 115, .int .i64 0, .string ⟨(nmS K).toArray⟩, .int .u8 117, .int .i64 V, .string ⟨#[]⟩, .int .u8 110, .int .i64 9, .string ⟨#[]⟩] 34)))
                clear hb5 HX4 hrw
                go_wp2_with fail
                refine HRW.out.mono ?_
                rintro e x6 ⟨rfl, hb6⟩
                have hbd := sd_bind HA.out HE.out HG.out (HX5.out.on hb6) HO.out (by decide) HNB.out HKB.out HVB.out HV1B.out HBB.out
                rw [ha'] at hbd
                have HBD := hid hbd
                clear hbd hb6 HX5 HRW
                go_wp2_with fail
                refine HBD.out.mono ?_
                rintro e x7 ⟨rfl, hS7⟩
                have hfc := sd_face hS7 9 (by decide)
                rw [ha', (kB_9 HKB.out HV1B.out).2] at hfc
                have HFC := hid hfc
                clear hfc hS7 HBD
                go_wp2_with fail
                refine HFC.out.mono ?_
                rintro e x9 ⟨rfl, hS10⟩
                have haw := awake26_any hS10.low HA.out HE.out HG.out HGG.out
                have HAW := hid haw
                have HX10 := hid hS10
                clear haw hS10 HFC
                go_wp2_with fail
                refine HAW.out.mono ?_
                rintro e x11 ⟨rfl, hb11⟩
                have HX11 := hid (HX10.out.on hb11)
                clear hb11 HX10 HAW
                go_wp2_with fail
                go_ret
                exact ⟨rfl, HX11.out.bel⟩
              · have HBB : Hid (bndB (l20 N K V) = false) := (by
                  rw [bnd_l20 HKB.out, decide_eq_false hv2]
                  simp : bndB (l20 N K V) = false)
                generalize glF (N - 1).toNat = F at *
                generalize glV (N - 1).toNat = T at *
                have eVT := decide_eq_false hv2
                have eKF : (F == K) = true := by simpa using hKF
                go_wp2_with fail
                refine (u_any _ _).mono ?_
                rintro e x1 ⟨rfl, hb1⟩
                have HX1 := hid (HS9.out.on hb1)
                clear hb1
                go_wp2_with fail
                refine (RefName_any _ _).mono ?_
                rintro e x2 ⟨rfl, hb2⟩
                have HX2 := hid (HX1.out.on hb2)
                clear hb2 HX1
                go_wp2_with fail
                refine (s_any _ _).mono ?_
                rintro e x3 ⟨rfl, hb3⟩
                have HX3 := hid (HX2.out.on hb3)
                clear hb3 HX2
                go_wp2_with fail
                refine (u_any _ _).mono ?_
                rintro e x4 ⟨rfl, hb4⟩
                have HX4 := hid (HX3.out.on hb4)
                clear hb4 HX3
                go_wp2_with fail
                refine (n_any 9 _).mono ?_
                rintro e x5 ⟨rfl, hb5⟩
                have hrw := raw_any 2 0 _ 4 4 (l20 N K V) (rda_20 x5 HNB.out HKB.out HVB.out) (by decide) (small_20 HKB.out) (l20_put HNB.out HKB.out HVB.out)
                have HRW := hid hrw
                have HX5 := hid ((HX4.out.on hb5).on (bel_mkR x5 (.cells #[.int .u8 117, .int .i64 N, .string ⟨#[]⟩, .int .u8 115, .int .i64 0, .string ⟨(nmS K).toArray⟩, .int .u8 117, .int .i64 V, .string ⟨#[]⟩, .int .u8 110, .int .i64 9, .string ⟨#[]⟩] 34)))
                clear hb5 HX4 hrw
                go_wp2_with fail
                refine HRW.out.mono ?_
                rintro e x6 ⟨rfl, hb6⟩
                have hbd := sd_bindno HA.out HE.out HG.out (HX5.out.on hb6) HO.out HNB.out HKB.out HVB.out HBB.out
                rw [ha'] at hbd
                have HBD := hid hbd
                clear hbd hb6 HX5 HRW
                go_wp2_with fail
                refine HBD.out.mono ?_
                rintro e x7 ⟨⟨y7, rfl, hF⟩, hS7⟩
                have HKD := hid (hF.kind (HE.out.below hS7.low))
                have HX7 := hid hS7
                clear hF hS7 HBD
                go_wp2_with fail
                refine HKD.out.mono ?_
                rintro e x8 ⟨rfl, hb8⟩
                have hfc := sd_face (HX7.out.on hb8) 9 (by decide)
                rw [ha', show (kRe.ids 9).1 = 0 from rfl] at hfc
                have HFC := hid hfc
                clear hfc hb8 HKD HX7
                go_wp2_with fail
                refine HFC.out.mono ?_
                rintro e x9 ⟨rfl, hS9⟩
                have hev := sd_ev hS9
                rw [ha', show kRe.ev.length = 0 from rfl] at hev
                have HEV := hid hev
                clear hev hS9 HFC
                go_wp2_with fail
                refine HEV.out.mono ?_
                rintro e x10 ⟨⟨xx, cc, rfl, _⟩, hS10⟩
                have haw := awake26_any hS10.low HA.out HE.out HG.out HGG.out
                have HAW := hid haw
                have HX10 := hid hS10
                clear haw hS10 HEV
                go_wp2_with fail
                refine HAW.out.mono ?_
                rintro e x11 ⟨rfl, hb11⟩
                have HX11 := hid (HX10.out.on hb11)
                clear hb11 HX10 HAW
                go_wp2_with fail
                go_ret
                exact ⟨rfl, HX11.out.bel⟩
            · have HBB : Hid (bndB (l20 N K V) = false) := (by
                rw [bnd_l20 HKB.out, decide_eq_false hv1]
                simp : bndB (l20 N K V) = false)
              generalize glF (N - 1).toNat = F at *
              generalize glV (N - 1).toNat = T at *
              have eKF : (F == K) = true := by simpa using hKF
              go_wp2_with fail
              refine (u_any _ _).mono ?_
              rintro e x1 ⟨rfl, hb1⟩
              have HX1 := hid (HS9.out.on hb1)
              clear hb1
              go_wp2_with fail
              refine (RefName_any _ _).mono ?_
              rintro e x2 ⟨rfl, hb2⟩
              have HX2 := hid (HX1.out.on hb2)
              clear hb2 HX1
              go_wp2_with fail
              refine (s_any _ _).mono ?_
              rintro e x3 ⟨rfl, hb3⟩
              have HX3 := hid (HX2.out.on hb3)
              clear hb3 HX2
              go_wp2_with fail
              refine (u_any _ _).mono ?_
              rintro e x4 ⟨rfl, hb4⟩
              have HX4 := hid (HX3.out.on hb4)
              clear hb4 HX3
              go_wp2_with fail
              refine (n_any 9 _).mono ?_
              rintro e x5 ⟨rfl, hb5⟩
              have hrw := raw_any 2 0 _ 4 4 (l20 N K V) (rda_20 x5 HNB.out HKB.out HVB.out) (by decide) (small_20 HKB.out) (l20_put HNB.out HKB.out HVB.out)
              have HRW := hid hrw
              have HX5 := hid ((HX4.out.on hb5).on (bel_mkR x5 (.cells #[.int .u8 117, .int .i64 N, .string ⟨#[]⟩, .int .u8 115, .int .i64 0, .string ⟨(nmS K).toArray⟩, .int .u8 117, .int .i64 V, .string ⟨#[]⟩, .int .u8 110, .int .i64 9, .string ⟨#[]⟩] 34)))
              clear hb5 HX4 hrw
              go_wp2_with fail
              refine HRW.out.mono ?_
              rintro e x6 ⟨rfl, hb6⟩
              have hbd := sd_bindno HA.out HE.out HG.out (HX5.out.on hb6) HO.out HNB.out HKB.out HVB.out HBB.out
              rw [ha'] at hbd
              have HBD := hid hbd
              clear hbd hb6 HX5 HRW
              go_wp2_with fail
              refine HBD.out.mono ?_
              rintro e x7 ⟨⟨y7, rfl, hF⟩, hS7⟩
              have HKD := hid (hF.kind (HE.out.below hS7.low))
              have HX7 := hid hS7
              clear hF hS7 HBD
              go_wp2_with fail
              refine HKD.out.mono ?_
              rintro e x8 ⟨rfl, hb8⟩
              have hfc := sd_face (HX7.out.on hb8) 9 (by decide)
              rw [ha', show (kRe.ids 9).1 = 0 from rfl] at hfc
              have HFC := hid hfc
              clear hfc hb8 HKD HX7
              go_wp2_with fail
              refine HFC.out.mono ?_
              rintro e x9 ⟨rfl, hS9⟩
              have hev := sd_ev hS9
              rw [ha', show kRe.ev.length = 0 from rfl] at hev
              have HEV := hid hev
              clear hev hS9 HFC
              go_wp2_with fail
              refine HEV.out.mono ?_
              rintro e x10 ⟨⟨xx, cc, rfl, _⟩, hS10⟩
              have haw := awake26_any hS10.low HA.out HE.out HG.out HGG.out
              have HAW := hid haw
              have HX10 := hid hS10
              clear haw hS10 HEV
              go_wp2_with fail
              refine HAW.out.mono ?_
              rintro e x11 ⟨rfl, hb11⟩
              have HX11 := hid (HX10.out.on hb11)
              clear hb11 HX10 HAW
              go_wp2_with fail
              go_ret
              exact ⟨rfl, HX11.out.bel⟩
          · have HBB : Hid (bndB (l20 N K V) = false) := (by
              rw [bnd_l20 HKB.out, decide_eq_false hKF]
              simp : bndB (l20 N K V) = false)
            generalize glF (N - 1).toNat = F at *
            generalize glV (N - 1).toNat = T at *
            have eKF : (F == K) = false := by simpa using hKF
            go_wp2_with fail
            refine (u_any _ _).mono ?_
            rintro e x1 ⟨rfl, hb1⟩
            have HX1 := hid (HS9.out.on hb1)
            clear hb1
            go_wp2_with fail
            refine (RefName_any _ _).mono ?_
            rintro e x2 ⟨rfl, hb2⟩
            have HX2 := hid (HX1.out.on hb2)
            clear hb2 HX1
            go_wp2_with fail
            refine (s_any _ _).mono ?_
            rintro e x3 ⟨rfl, hb3⟩
            have HX3 := hid (HX2.out.on hb3)
            clear hb3 HX2
            go_wp2_with fail
            refine (u_any _ _).mono ?_
            rintro e x4 ⟨rfl, hb4⟩
            have HX4 := hid (HX3.out.on hb4)
            clear hb4 HX3
            go_wp2_with fail
            refine (n_any 9 _).mono ?_
            rintro e x5 ⟨rfl, hb5⟩
            have hrw := raw_any 2 0 _ 4 4 (l20 N K V) (rda_20 x5 HNB.out HKB.out HVB.out) (by decide) (small_20 HKB.out) (l20_put HNB.out HKB.out HVB.out)
            have HRW := hid hrw
            have HX5 := hid ((HX4.out.on hb5).on (bel_mkR x5 (.cells #[.int .u8 117, .int .i64 N, .string ⟨#[]⟩, .int .u8 115, .int .i64 0, .string ⟨(nmS K).toArray⟩, .int .u8 117, .int .i64 V, .string ⟨#[]⟩, .int .u8 110, .int .i64 9, .string ⟨#[]⟩] 34)))
            clear hb5 HX4 hrw
            go_wp2_with fail
            refine HRW.out.mono ?_
            rintro e x6 ⟨rfl, hb6⟩
            have hbd := sd_bindno HA.out HE.out HG.out (HX5.out.on hb6) HO.out HNB.out HKB.out HVB.out HBB.out
            rw [ha'] at hbd
            have HBD := hid hbd
            clear hbd hb6 HX5 HRW
            go_wp2_with fail
            refine HBD.out.mono ?_
            rintro e x7 ⟨⟨y7, rfl, hF⟩, hS7⟩
            have HKD := hid (hF.kind (HE.out.below hS7.low))
            have HX7 := hid hS7
            clear hF hS7 HBD
            go_wp2_with fail
            refine HKD.out.mono ?_
            rintro e x8 ⟨rfl, hb8⟩
            have hfc := sd_face (HX7.out.on hb8) 9 (by decide)
            rw [ha', show (kRe.ids 9).1 = 0 from rfl] at hfc
            have HFC := hid hfc
            clear hfc hb8 HKD HX7
            go_wp2_with fail
            refine HFC.out.mono ?_
            rintro e x9 ⟨rfl, hS9⟩
            have hev := sd_ev hS9
            rw [ha', show kRe.ev.length = 0 from rfl] at hev
            have HEV := hid hev
            clear hev hS9 HFC
            go_wp2_with fail
            refine HEV.out.mono ?_
            rintro e x10 ⟨⟨xx, cc, rfl, _⟩, hS10⟩
            have haw := awake26_any hS10.low HA.out HE.out HG.out HGG.out
            have HAW := hid haw
            have HX10 := hid hS10
            clear haw hS10 HEV
            go_wp2_with fail
            refine HAW.out.mono ?_
            rintro e x11 ⟨rfl, hb11⟩
            have HX11 := hid (HX10.out.on hb11)
            clear hb11 HX10 HAW
            go_wp2_with fail
            go_ret
            exact ⟨rfl, HX11.out.bel⟩
        · have HBB : Hid (bndB (l20 N K V) = false) := (by
            rw [bnd_l20 HKB.out, decide_eq_false h5]
            simp : bndB (l20 N K V) = false)
          clear HFA HFB
          go_wp2_with fail
          refine (u_any _ _).mono ?_
          rintro e x1 ⟨rfl, hb1⟩
          have HX1 := hid (HS9.out.on hb1)
          clear hb1
          go_wp2_with fail
          refine (RefName_any _ _).mono ?_
          rintro e x2 ⟨rfl, hb2⟩
          have HX2 := hid (HX1.out.on hb2)
          clear hb2 HX1
          go_wp2_with fail
          refine (s_any _ _).mono ?_
          rintro e x3 ⟨rfl, hb3⟩
          have HX3 := hid (HX2.out.on hb3)
          clear hb3 HX2
          go_wp2_with fail
          refine (u_any _ _).mono ?_
          rintro e x4 ⟨rfl, hb4⟩
          have HX4 := hid (HX3.out.on hb4)
          clear hb4 HX3
          go_wp2_with fail
          refine (n_any 9 _).mono ?_
          rintro e x5 ⟨rfl, hb5⟩
          have hrw := raw_any 2 0 _ 4 4 (l20 N K V) (rda_20 x5 HNB.out HKB.out HVB.out) (by decide) (small_20 HKB.out) (l20_put HNB.out HKB.out HVB.out)
          have HRW := hid hrw
          have HX5 := hid ((HX4.out.on hb5).on (bel_mkR x5 (.cells #[.int .u8 117, .int .i64 N, .string ⟨#[]⟩, .int .u8 115, .int .i64 0, .string ⟨(nmS K).toArray⟩, .int .u8 117, .int .i64 V, .string ⟨#[]⟩, .int .u8 110, .int .i64 9, .string ⟨#[]⟩] 34)))
          clear hb5 HX4 hrw
          go_wp2_with fail
          refine HRW.out.mono ?_
          rintro e x6 ⟨rfl, hb6⟩
          have hbd := sd_bindno HA.out HE.out HG.out (HX5.out.on hb6) HO.out HNB.out HKB.out HVB.out HBB.out
          rw [ha'] at hbd
          have HBD := hid hbd
          clear hbd hb6 HX5 HRW
          go_wp2_with fail
          refine HBD.out.mono ?_
          rintro e x7 ⟨⟨y7, rfl, hF⟩, hS7⟩
          have HKD := hid (hF.kind (HE.out.below hS7.low))
          have HX7 := hid hS7
          clear hF hS7 HBD
          go_wp2_with fail
          refine HKD.out.mono ?_
          rintro e x8 ⟨rfl, hb8⟩
          have hfc := sd_face (HX7.out.on hb8) 9 (by decide)
          rw [ha', show (kRe.ids 9).1 = 0 from rfl] at hfc
          have HFC := hid hfc
          clear hfc hb8 HKD HX7
          go_wp2_with fail
          refine HFC.out.mono ?_
          rintro e x9 ⟨rfl, hS9⟩
          have hev := sd_ev hS9
          rw [ha', show kRe.ev.length = 0 from rfl] at hev
          have HEV := hid hev
          clear hev hS9 HFC
          go_wp2_with fail
          refine HEV.out.mono ?_
          rintro e x10 ⟨⟨xx, cc, rfl, _⟩, hS10⟩
          have haw := awake26_any hS10.low HA.out HE.out HG.out HGG.out
          have HAW := hid haw
          have HX10 := hid hS10
          clear haw hS10 HEV
          go_wp2_with fail
          refine HAW.out.mono ?_
          rintro e x11 ⟨rfl, hb11⟩
          have HX11 := hid (HX10.out.on hb11)
          clear hb11 HX10 HAW
          go_wp2_with fail
          go_ret
          exact ⟨rfl, HX11.out.bel⟩
      · have HBB : Hid (bndB (l20 N K V) = false) := (by
          rw [bnd_l20 HKB.out, decide_eq_false h1]
          rfl : bndB (l20 N K V) = false)
        clear HFA HFB
        go_wp2_with fail
        refine (u_any _ _).mono ?_
        rintro e x1 ⟨rfl, hb1⟩
        have HX1 := hid (HS9.out.on hb1)
        clear hb1
        go_wp2_with fail
        refine (RefName_any _ _).mono ?_
        rintro e x2 ⟨rfl, hb2⟩
        have HX2 := hid (HX1.out.on hb2)
        clear hb2 HX1
        go_wp2_with fail
        refine (s_any _ _).mono ?_
        rintro e x3 ⟨rfl, hb3⟩
        have HX3 := hid (HX2.out.on hb3)
        clear hb3 HX2
        go_wp2_with fail
        refine (u_any _ _).mono ?_
        rintro e x4 ⟨rfl, hb4⟩
        have HX4 := hid (HX3.out.on hb4)
        clear hb4 HX3
        go_wp2_with fail
        refine (n_any 9 _).mono ?_
        rintro e x5 ⟨rfl, hb5⟩
        have hrw := raw_any 2 0 _ 4 4 (l20 N K V) (rda_20 x5 HNB.out HKB.out HVB.out) (by decide) (small_20 HKB.out) (l20_put HNB.out HKB.out HVB.out)
        have HRW := hid hrw
        have HX5 := hid ((HX4.out.on hb5).on (bel_mkR x5 (.cells #[.int .u8 117, .int .i64 N, .string ⟨#[]⟩, .int .u8 115, .int .i64 0, .string ⟨(nmS K).toArray⟩, .int .u8 117, .int .i64 V, .string ⟨#[]⟩, .int .u8 110, .int .i64 9, .string ⟨#[]⟩] 34)))
        clear hb5 HX4 hrw
        go_wp2_with fail
        refine HRW.out.mono ?_
        rintro e x6 ⟨rfl, hb6⟩
        have hbd := sd_bindno HA.out HE.out HG.out (HX5.out.on hb6) HO.out HNB.out HKB.out HVB.out HBB.out
        rw [ha'] at hbd
        have HBD := hid hbd
        clear hbd hb6 HX5 HRW
        go_wp2_with fail
        refine HBD.out.mono ?_
        rintro e x7 ⟨⟨y7, rfl, hF⟩, hS7⟩
        have HKD := hid (hF.kind (HE.out.below hS7.low))
        have HX7 := hid hS7
        clear hF hS7 HBD
        go_wp2_with fail
        refine HKD.out.mono ?_
        rintro e x8 ⟨rfl, hb8⟩
        have hfc := sd_face (HX7.out.on hb8) 9 (by decide)
        rw [ha', show (kRe.ids 9).1 = 0 from rfl] at hfc
        have HFC := hid hfc
        clear hfc hb8 HKD HX7
        go_wp2_with fail
        refine HFC.out.mono ?_
        rintro e x9 ⟨rfl, hS9⟩
        have hev := sd_ev hS9
        rw [ha', show kRe.ev.length = 0 from rfl] at hev
        have HEV := hid hev
        clear hev hS9 HFC
        go_wp2_with fail
        refine HEV.out.mono ?_
        rintro e x10 ⟨⟨xx, cc, rfl, _⟩, hS10⟩
        have haw := awake26_any hS10.low HA.out HE.out HG.out HGG.out
        have HAW := hid haw
        have HX10 := hid hS10
        clear haw hS10 HEV
        go_wp2_with fail
        refine HAW.out.mono ?_
        rintro e x11 ⟨rfl, hb11⟩
        have HX11 := hid (HX10.out.on hb11)
        clear hb11 HX10 HAW
        go_wp2_with fail
        go_ret
        exact ⟨rfl, HX11.out.bel⟩
theorem ne_of {w : World} {es : List Addr} (h : Errs w gerrs es) : 16 ≤ w.heap.size := by
  have hl : es.length = 16 := h.len
  have each : ∀ i g, gerrs[i]? = some g → i < 16 → g < w.heap.size := fun i g hg hi => World.block_lt_of_cell? _ _ (h.each i g _ hg (List.getElem?_eq_getElem (by omega))).1
  have := each 0 _ rfl (by decide)
  have := each 1 _ rfl (by decide)
  have := each 2 _ rfl (by decide)
  have := each 3 _ rfl (by decide)
  have := each 4 _ rfl (by decide)
  have := each 5 _ rfl (by decide)
  have := each 6 _ rfl (by decide)
  have := each 7 _ rfl (by decide)
  have := each 8 _ rfl (by decide)
  have := each 9 _ rfl (by decide)
  have := each 10 _ rfl (by decide)
  have := each 11 _ rfl (by decide)
  have := each 12 _ rfl (by decide)
  have := each 13 _ rfl (by decide)
  have := each 14 _ rfl (by decide)
  have := each 15 _ rfl (by decide)
  omega
theorem walk (a0 a1 a2 : Int) (w : World) (w0 : (Lit.int .i64 a0).wf = true) (w1 : (Lit.int .i64 a1).wf = true) (w2 : (Lit.int .i64 a2).wf = true) (hL : laidMetH Tryz.prog Rows.deskBindsRow.laid w) :
    Calls Tryz.prog 3 #[.int .i64 a0, .int .i64 a1, .int .i64 a2] w fun e w' => e = .returned (.bool true) ∧ Below w.heap.size w w' := by
  obtain ⟨⟨es, hA⟩, hG⟩ := all18 hL
  exact core a0 a1 a2 w w0 w1 w2 hA hG (ne_of hA.errs)
end
end Go.Proofs.YtpbgbpcdohdecaaGreatDoor.deskBinds
