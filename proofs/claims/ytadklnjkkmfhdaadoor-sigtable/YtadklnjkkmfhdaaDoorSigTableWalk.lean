/- SigTable's walk: the closed law returns true; nothing that was there is turned. -/
import Derived.Test.YtadklnjkkmfhdaaDoorSigG
set_option linter.unusedSimpArgs false
namespace Go.Proofs.YtadklnjkkmfhdaaDoor.sigTable
open Go Go.RowKit

set_option maxRecDepth 100000 in
set_option maxHeartbeats 4000000 in
theorem walk (w : World) (hL : laidMetH Tryd.prog Rows.sigTableRow.laid w) :
    Calls Tryd.prog 4 #[] w fun e w' => e = .returned (.bool true) ∧ Below w.heap.size w w' := by
  obtain ⟨a, hm⟩ := meth_of hL
  have HM : Hid (Meth w a) := hm
  clear hm hL
  go_enter Tryd.func4, Tryd.ntmps4
  go_wp2_with fail
  go_loopw [1, 2, 3] (fun n m f wr => ∃ A : Nat, A ≤ 22 ∧ f = .int .i64 ((A : Int) - 1) ∧ n = .int .i64 (tc rqIs A : Nat) ∧ m = .int .i64 (tc evIs A : Nat) ∧ Below w.heap.size w wr) (fun _ _ f _ => (21 - intOf f).toNat)
  case atStart => exact ⟨0, by omega, rfl, rfl, rfl, Below.refl _ _⟩
  case round =>
    obtain ⟨A, hA, rfl, rfl, rfl, hbel⟩ := hrel
    have HB : Hid (Below w.heap.size w wr) := hbel
    clear hbel
    by_cases h22 : A = 22
    · subst h22
      rw [rq_count, ev_count]
      go_wp2_with fail
      refine (awake_any _ a (HM.out.below HB.out)).mono ?_
      rintro e w1 ⟨rfl, b1⟩
      go_wp2
      go_ret
      exact ⟨rfl, HB.out.trans (b1.mono HB.out.size)⟩
    · have hA2 : (A : Int) - 1 ≤ 20 := by omega
      have hn0 := tc_le rqIs A
      have hm0 := tc_le evIs A
      have HNx : Hid (tc rqIs (A + 1) = tc rqIs A + rc rqIs A 10) := rfl
      have HMx : Hid (tc evIs (A + 1) = tc evIs A + rc evIs A 10) := rfl
      generalize tc rqIs A = N at *
      generalize tc evIs A = M at *
      have hN : (N : Int) ≤ 300 := by omega
      have hM : (M : Int) ≤ 300 := by omega
      clear hn0 hm0
      go_wp2_with fail
      go_loopw [1, 2, 4] (fun n m o wx => ∃ O : Nat, O ≤ 10 ∧ o = .int .i64 ((O : Int) - 1) ∧ n = .int .i64 (N + rc rqIs A O : Nat) ∧ m = .int .i64 (M + rc evIs A O : Nat) ∧ Below w.heap.size w wx) (fun _ _ o _ => (9 - intOf o).toNat)
      case atStart => exact ⟨0, by omega, rfl, rfl, rfl, HB.out⟩
      case round =>
        clear HB
        obtain ⟨O, hO, rfl, rfl, rfl, hbel⟩ := hrel
        have HB : Hid (Below w.heap.size w wr) := hbel
        clear hbel
        by_cases h10 : O = 10
        · subst h10
          go_wp2
          go_round
          case rel => exact ⟨A + 1, by omega, by go_num, by rw [HNx.out], by rw [HMx.out], HB.out⟩
          case measure => simp [intOf]; omega
        · have hO2 : (O : Int) - 1 ≤ 8 := by omega
          have HRn : Hid (rc rqIs A (O + 1) = rc rqIs A O + if rqIs ((A : Int) - 1) ((O : Int) - 1) = true then 1 else 0) := rfl
          have HEn : Hid (rc evIs A (O + 1) = rc evIs A O + if evIs ((A : Int) - 1) ((O : Int) - 1) = true then 1 else 0) := rfl
          have HR : Hid (∀ u, Meth u a → Calls Tryd.prog 8 #[.int .i64 ((A : Int) - 1), .int .i64 ((O : Int) - 1)] u fun e w' => e = .returned (.tuple #[.string ⟨(rqS ((A : Int) - 1) ((O : Int) - 1)).toArray⟩, errv a (rqIs ((A : Int) - 1) ((O : Int) - 1))]) ∧ Below u.heap.size u w') := fun u hu => Request_any _ _ u a hu
          have HE : Hid (∀ u, Meth u a → Calls Tryd.prog 10 #[.int .i64 ((A : Int) - 1), .int .i64 ((O : Int) - 1)] u fun e w' => e = .returned (.tuple #[.string ⟨(evS ((A : Int) - 1) ((O : Int) - 1)).toArray⟩, errv a (evIs ((A : Int) - 1) ((O : Int) - 1))]) ∧ Below u.heap.size u w') := fun u hu => Event_any _ _ u a hu
          have HR' : Hid (∀ u, Calls Tryd.prog 9 #[.int .i64 ((A : Int) - 1), .int .i64 ((O : Int) - 1)] u fun e w' => e = .returned (.tuple #[.agg #[.string ⟨(rqS ((A : Int) - 1) ((O : Int) - 1)).toArray⟩, .int .i64 (rqM ((A : Int) - 1) ((O : Int) - 1)), .bool (rqB ((A : Int) - 1) ((O : Int) - 1))], .bool (rqIs ((A : Int) - 1) ((O : Int) - 1))]) ∧ Below u.heap.size u w') := RefRequest_any _ _
          have HE' : Hid (∀ u, Calls Tryd.prog 11 #[.int .i64 ((A : Int) - 1), .int .i64 ((O : Int) - 1)] u fun e w' => e = .returned (.tuple #[.string ⟨(evS ((A : Int) - 1) ((O : Int) - 1)).toArray⟩, .bool (evIs ((A : Int) - 1) ((O : Int) - 1))]) ∧ Below u.heap.size u w') := RefEvent_any _ _
          have CM : Hid (∀ u, Calls Tryd.prog 13 #[.int .i64 ((A : Int) - 1), .int .i64 ((O : Int) - 1)] u fun e w' => e = .returned (.int .i64 (rqM ((A : Int) - 1) ((O : Int) - 1))) ∧ Below u.heap.size u w') := Makes_any _ _
          have CE : Hid (∀ u, Calls Tryd.prog 14 #[.int .i64 ((A : Int) - 1), .int .i64 ((O : Int) - 1)] u fun e w' => e = .returned (.bool (rqB ((A : Int) - 1) ((O : Int) - 1))) ∧ Below u.heap.size u w') := Ends_any _ _
          generalize rqIs ((A : Int) - 1) ((O : Int) - 1) = q1 at *
          generalize evIs ((A : Int) - 1) ((O : Int) - 1) = q2 at *
          generalize (⟨(rqS ((A : Int) - 1) ((O : Int) - 1)).toArray⟩ : ByteArray) = s1 at *
          generalize (⟨(evS ((A : Int) - 1) ((O : Int) - 1)).toArray⟩ : ByteArray) = s2 at *
          generalize rqM ((A : Int) - 1) ((O : Int) - 1) = m1 at *
          generalize rqB ((A : Int) - 1) ((O : Int) - 1) = b1 at *
          have hr0 := rc_le rqIs A O
          have he0 := rc_le evIs A O
          generalize rc rqIs A O = X at *
          generalize rc evIs A O = Y at *
          go_wp2_with fail
          refine (HR.out _ (HM.out.below HB.out)).mono ?_
          rintro e w1 ⟨rfl, hb⟩
          have H1 : Hid (Below w.heap.size w w1) := Below.on HB.out hb
          clear HB HR hb
          generalize hv1 : errv a q1 = v1
          go_wp2_with fail
          refine (HR'.out _).mono ?_
          rintro e w2 ⟨rfl, hb⟩
          have H2 : Hid (Below w.heap.size w w2) := Below.on H1.out hb
          clear H1 HR' hb
          have hv := below1 w2 (.cells #[.string s1, .int .i64 m1, .bool b1] 28)
          have H3 : Hid (Below w.heap.size w (w2.alloc (.cells #[.string s1, .int .i64 m1, .bool b1] 28))) := Below.on H2.out hv
          have hV := heap_alloc_last w2 (.cells #[.string s1, .int .i64 m1, .bool b1] 28)
          have HV : Hid ((w2.alloc (.cells #[.string s1, .int .i64 m1, .bool b1] 28)).heap[w2.heap.size]? = some (.cells #[.string s1, .int .i64 m1, .bool b1] 28)) := hV
          clear hV hv H2
          go_wp2_with fail
          refine (HE.out _ (HM.out.below H3.out)).mono ?_
          rintro e w4 ⟨rfl, hb⟩
          have H4 : Hid (Below w.heap.size w w4) := Below.on H3.out hb
          have HV4 : Hid (w4.heap[w2.heap.size]? = some (.cells #[.string s1, .int .i64 m1, .bool b1] 28)) := by
            show _ = _
            rw [hb.block _ (Array.getElem?_eq_some_iff.1 HV.out).1]
            exact HV.out
          clear H3 HE hb HV
          generalize hv2 : errv a q2 = v2
          go_wp2_with fail
          refine (HE'.out _).mono ?_
          rintro e w5 ⟨rfl, hb⟩
          have H5 : Hid (Below w.heap.size w w5) := Below.on H4.out hb
          have HV5 : Hid (w5.heap[w2.heap.size]? = some (.cells #[.string s1, .int .i64 m1, .bool b1] 28)) := by
            show _ = _
            rw [hb.block _ (Array.getElem?_eq_some_iff.1 HV4.out).1]
            exact HV4.out
          clear H4 HE' hb HV4
          generalize w2.heap.size = nV at *
          go_wp2_with fail
          -- HERE
          have g1 : ∀ x u, Sem.run Tryd.prog (eqGuard BinOp.eql 24 x (.const .nilIface) v1 .nilIface) u = .ok () u := fun x u => by rw [← hv1]; exact errv_guard a q1 x u
          have g2 : ∀ x u, Sem.run Tryd.prog (eqGuard BinOp.eql 24 x (.const .nilIface) v2 .nilIface) u = .ok () u := fun x u => by rw [← hv2]; exact errv_guard a q2 x u
          have k1 : ∀ u, Sem.run Tryd.prog (binOp BinOp.eql 24 v1 .nilIface) u = .ok (.bool q1) u := fun u => by rw [← hv1]; exact errv_nil a q1 u
          have k2 : ∀ u, Sem.run Tryd.prog (binOp BinOp.eql 24 v2 .nilIface) u = .ok (.bool q2) u := fun u => by rw [← hv2]; exact errv_nil a q2 u
          have tf0 : ∀ u, Below w5.heap.size w5 u → u.cell? ⟨nV, 0, none⟩ = some (.string s1) := fun u hu => by rw [World.cell?, hu.block _ (Array.getElem?_eq_some_iff.1 HV5.out).1, HV5.out]; rfl
          have tf1 : ∀ u, Below w5.heap.size w5 u → u.cell? ⟨nV, 1, none⟩ = some (.int .i64 m1) := fun u hu => by rw [World.cell?, hu.block _ (Array.getElem?_eq_some_iff.1 HV5.out).1, HV5.out]; rfl
          have tf2 : ∀ u, Below w5.heap.size w5 u → u.cell? ⟨nV, 2, none⟩ = some (.bool b1) := fun u hu => by rw [World.cell?, hu.block _ (Array.getElem?_eq_some_iff.1 HV5.out).1, HV5.out]; rfl
          clear hv1 hv2 HV5
          refine wp_region_held_drew (S := fun x => Below w5.heap.size w5 x) (by kernel_rfl) (Below.refl _ _).drew (fun hHeld => ?_)
          have hHeld : Below w5.heap.size w5 w5.drew := hHeld
          have bw : Below w5.heap.size w5 w5.drew := (Below.refl _ _).drew
          refine wpAnyH_take (i := 0) (v := ?_) rfl (by kernel_rfl) (by kernel_rfl) (by kernel_rfl) (fun _ _ _ h => h) (Or.inl ⟨by kernel_rfl, ?hy0⟩) (by assumption) ?_
          case hy0 => (intro w hSw; (try dsimp only at hSw); go_simp; try with_reducible rfl)
          try simp only [Act.put, List.getElem_toArray, List.getElem_cons_zero, List.getElem_cons_succ, List.setIfInBounds_toArray, List.set_cons_zero, List.set_cons_succ]
          refine wpAnyH_take (i := 1) (v := ?_) rfl (by kernel_rfl) (by kernel_rfl) (by kernel_rfl) (fun _ _ _ h => h) (Or.inl ⟨by kernel_rfl, ?hy1⟩) (by assumption) ?_
          case hy1 => (intro w hSw; (try dsimp only at hSw); go_simp; try with_reducible rfl)
          try simp only [Act.put, List.getElem_toArray, List.getElem_cons_zero, List.getElem_cons_succ, List.setIfInBounds_toArray, List.set_cons_zero, List.set_cons_succ]
          refine wpAnyH_take (i := 2) (v := ?_) rfl (by kernel_rfl) (by kernel_rfl) (by kernel_rfl) (fun _ _ _ h => h) (Or.inl ⟨by kernel_rfl, ?hy2⟩) (by assumption) ?_
          case hy2 => (intro w hSw; (try dsimp only at hSw); go_simp; try with_reducible rfl)
          try simp only [Act.put, List.getElem_toArray, List.getElem_cons_zero, List.getElem_cons_succ, List.setIfInBounds_toArray, List.set_cons_zero, List.set_cons_succ]
          refine wpAnyH_take (i := 3) (v := ?_) rfl (by kernel_rfl) (by kernel_rfl) (by kernel_rfl) (fun _ _ _ h => h) (Or.inl ⟨by kernel_rfl, ?hy3⟩) (by assumption) ?_
          case hy3 => (intro w hSw; (try dsimp only at hSw); go_simp; try with_reducible rfl)
          try simp only [Act.put, List.getElem_toArray, List.getElem_cons_zero, List.getElem_cons_succ, List.setIfInBounds_toArray, List.set_cons_zero, List.set_cons_succ]
          refine wpAnyH_take (i := 4) (v := ?_) rfl (by kernel_rfl) (by kernel_rfl) (by kernel_rfl) (fun _ _ _ h => h) (Or.inl ⟨by kernel_rfl, ?hy4⟩) (by assumption) ?_
          case hy4 => (intro w hSw; (try dsimp only at hSw); go_simp; try with_reducible rfl)
          try simp only [Act.put, List.getElem_toArray, List.getElem_cons_zero, List.getElem_cons_succ, List.setIfInBounds_toArray, List.set_cons_zero, List.set_cons_succ]
          refine wpAnyH_take (i := 5) (v := ?_) rfl (by kernel_rfl) (by kernel_rfl) (by kernel_rfl) (fun _ _ _ h => h) (Or.inl ⟨by kernel_rfl, ?hy5⟩) (by assumption) ?_
          case hy5 => (intro w hSw; (try dsimp only at hSw); go_simp; try with_reducible rfl)
          try simp only [Act.put, List.getElem_toArray, List.getElem_cons_zero, List.getElem_cons_succ, List.setIfInBounds_toArray, List.set_cons_zero, List.set_cons_succ]
          refine wpAnyH_take (i := 6) (v := ?_) rfl (by kernel_rfl) (by kernel_rfl) (by kernel_rfl) (fun _ _ _ h => h) (Or.inl ⟨by kernel_rfl, ?hy6⟩) (by assumption) ?_
          case hy6 => (intro w hSw; (try dsimp only at hSw); go_simp; try with_reducible rfl)
          try simp only [Act.put, List.getElem_toArray, List.getElem_cons_zero, List.getElem_cons_succ, List.setIfInBounds_toArray, List.set_cons_zero, List.set_cons_succ]
          refine wpAnyH_take (i := 7) (v := ?_) rfl (by kernel_rfl) (by kernel_rfl) (by kernel_rfl) (fun _ _ _ h => h) (Or.inl ⟨by kernel_rfl, ?hy7⟩) (by assumption) ?_
          case hy7 => (intro w hSw; (try dsimp only at hSw); go_simp; try with_reducible rfl)
          try simp only [Act.put, List.getElem_toArray, List.getElem_cons_zero, List.getElem_cons_succ, List.setIfInBounds_toArray, List.set_cons_zero, List.set_cons_succ]
          refine wpAnyH_take (i := 8) (v := ?_) rfl (by kernel_rfl) (by kernel_rfl) (by kernel_rfl) (fun _ _ _ h => h) (Or.inl ⟨by kernel_rfl, ?hy8⟩) (by assumption) ?_
          case hy8 => (intro w hSw; (try dsimp only at hSw); go_simp; try with_reducible rfl)
          try simp only [Act.put, List.getElem_toArray, List.getElem_cons_zero, List.getElem_cons_succ, List.setIfInBounds_toArray, List.set_cons_zero, List.set_cons_succ]
          refine wpAnyH_take (i := 9) (v := ?_) rfl (by kernel_rfl) (by kernel_rfl) (by kernel_rfl) (fun _ _ _ h => h) (Or.inl ⟨by kernel_rfl, ?hy9⟩) (by assumption) ?_
          case hy9 => (intro w hSw; (try dsimp only at hSw); go_simp; try with_reducible rfl)
          try simp only [Act.put, List.getElem_toArray, List.getElem_cons_zero, List.getElem_cons_succ, List.setIfInBounds_toArray, List.set_cons_zero, List.set_cons_succ]
          refine wpAnyH_take (i := 10) (v := ?_) rfl (by kernel_rfl) (by kernel_rfl) (by kernel_rfl) (fun _ _ _ h => h) (Or.inl ⟨by kernel_rfl, ?hy10⟩) (by assumption) ?_
          case hy10 => (intro w hSw; (try dsimp only at hSw); go_simp; try with_reducible rfl)
          try simp only [Act.put, List.getElem_toArray, List.getElem_cons_zero, List.getElem_cons_succ, List.setIfInBounds_toArray, List.set_cons_zero, List.set_cons_succ]
          refine wpAnyH_take (i := 11) (v := ?_) rfl (by kernel_rfl) (by kernel_rfl) (by kernel_rfl) (fun _ _ _ h => h) (Or.inl ⟨by kernel_rfl, ?hy11⟩) (by assumption) ?_
          case hy11 => (intro w hSw; (try dsimp only at hSw); go_simp; try with_reducible rfl)
          try simp only [Act.put, List.getElem_toArray, List.getElem_cons_zero, List.getElem_cons_succ, List.setIfInBounds_toArray, List.set_cons_zero, List.set_cons_succ]
          refine wpAnyH_take (i := 12) (v := ?_) rfl (by kernel_rfl) (by kernel_rfl) (by kernel_rfl) (fun _ _ _ h => h) (Or.inl ⟨by kernel_rfl, ?hy12⟩) (by assumption) ?_
          case hy12 => (intro w hSw; (try dsimp only at hSw); go_simp; try with_reducible rfl)
          try simp only [Act.put, List.getElem_toArray, List.getElem_cons_zero, List.getElem_cons_succ, List.setIfInBounds_toArray, List.set_cons_zero, List.set_cons_succ]
          refine wpAnyH_take (i := 13) (v := ?_) rfl (by kernel_rfl) (by kernel_rfl) (by kernel_rfl) (fun _ _ _ h => h) (Or.inl ⟨by kernel_rfl, ?hy13⟩) (by assumption) ?_
          case hy13 => (intro w hSw; (try dsimp only at hSw); go_simp; try with_reducible rfl)
          try simp only [Act.put, List.getElem_toArray, List.getElem_cons_zero, List.getElem_cons_succ, List.setIfInBounds_toArray, List.set_cons_zero, List.set_cons_succ]
          refine wpAnyH_take (i := 14) (v := ?_) rfl (by kernel_rfl) (by kernel_rfl) (by kernel_rfl) (fun _ _ _ h => h) (Or.inl ⟨by kernel_rfl, ?hy14⟩) (by assumption) ?_
          case hy14 => (intro w hSw; (try dsimp only at hSw); go_simp; try with_reducible rfl)
          try simp only [Act.put, List.getElem_toArray, List.getElem_cons_zero, List.getElem_cons_succ, List.setIfInBounds_toArray, List.set_cons_zero, List.set_cons_succ]
          refine wpAnyH_take (i := 15) (v := ?_) rfl (by kernel_rfl) (by kernel_rfl) (by kernel_rfl) (fun _ _ _ h => h) (Or.inl ⟨by kernel_rfl, ?hy15⟩) (by assumption) ?_
          case hy15 => (intro w hSw; (try dsimp only at hSw); go_simp; try with_reducible rfl)
          try simp only [Act.put, List.getElem_toArray, List.getElem_cons_zero, List.getElem_cons_succ, List.setIfInBounds_toArray, List.set_cons_zero, List.set_cons_succ]
          refine wpAnyH_take (i := 16) (v := ?_) rfl (by kernel_rfl) (by kernel_rfl) (by kernel_rfl) (fun _ _ _ h => h) (Or.inl ⟨by kernel_rfl, ?hy16⟩) (by assumption) ?_
          case hy16 => (intro w hSw; (try dsimp only at hSw); go_simp; try with_reducible rfl)
          try simp only [Act.put, List.getElem_toArray, List.getElem_cons_zero, List.getElem_cons_succ, List.setIfInBounds_toArray, List.set_cons_zero, List.set_cons_succ]
          refine wpAnyH_take (i := 17) (v := ?_) rfl (by kernel_rfl) (by kernel_rfl) (by kernel_rfl) (fun _ _ _ h => h) (Or.inl ⟨by kernel_rfl, ?hy17⟩) (by assumption) ?_
          case hy17 => (intro w hSw; (try dsimp only at hSw); go_simp; try with_reducible rfl)
          try simp only [Act.put, List.getElem_toArray, List.getElem_cons_zero, List.getElem_cons_succ, List.setIfInBounds_toArray, List.set_cons_zero, List.set_cons_succ]
          refine wpAnyH_take (i := 18) (v := ?_) rfl (by kernel_rfl) (by kernel_rfl) (by kernel_rfl) (fun _ _ _ h => h) (Or.inl ⟨by kernel_rfl, ?hy18⟩) (by assumption) ?_
          case hy18 => (intro w hSw; (try dsimp only at hSw); go_simp; try with_reducible rfl)
          try simp only [Act.put, List.getElem_toArray, List.getElem_cons_zero, List.getElem_cons_succ, List.setIfInBounds_toArray, List.set_cons_zero, List.set_cons_succ]
          refine wpAnyH_take (i := 19) (v := ?_) rfl (by kernel_rfl) (by kernel_rfl) (by kernel_rfl) (fun _ _ _ h => h) (Or.inl ⟨by kernel_rfl, ?hy19⟩) (by assumption) ?_
          case hy19 => (intro w hSw; (try dsimp only at hSw); go_simp; try with_reducible rfl)
          try simp only [Act.put, List.getElem_toArray, List.getElem_cons_zero, List.getElem_cons_succ, List.setIfInBounds_toArray, List.set_cons_zero, List.set_cons_succ]
          refine wpAnyH_take (i := 20) (v := ?_) rfl (by kernel_rfl) (by kernel_rfl) (by kernel_rfl) (fun _ _ _ h => h) (Or.inl ⟨by kernel_rfl, ?hy20⟩) (by assumption) ?_
          case hy20 => (intro w hSw; (try dsimp only at hSw); go_simp; try with_reducible rfl)
          try simp only [Act.put, List.getElem_toArray, List.getElem_cons_zero, List.getElem_cons_succ, List.setIfInBounds_toArray, List.set_cons_zero, List.set_cons_succ]
          refine wpAnyH_take (i := 21) (v := ?_) rfl (by kernel_rfl) (by kernel_rfl) (by kernel_rfl) (fun _ _ _ h => h) (Or.inl ⟨by kernel_rfl, ?hy21⟩) (by assumption) ?_
          case hy21 => (intro w hSw; (try dsimp only at hSw); go_simp; try with_reducible rfl)
          try simp only [Act.put, List.getElem_toArray, List.getElem_cons_zero, List.getElem_cons_succ, List.setIfInBounds_toArray, List.set_cons_zero, List.set_cons_succ]
          refine wpAnyH_take (i := 22) (v := ?_) rfl (by kernel_rfl) (by kernel_rfl) (by kernel_rfl) (fun _ _ _ h => h) (Or.inl ⟨by kernel_rfl, ?hy22⟩) (by assumption) ?_
          case hy22 => (intro w hSw; (try dsimp only at hSw); go_simp; try with_reducible rfl)
          try simp only [Act.put, List.getElem_toArray, List.getElem_cons_zero, List.getElem_cons_succ, List.setIfInBounds_toArray, List.set_cons_zero, List.set_cons_succ]
          refine wpAnyH_take (i := 23) (v := ?_) rfl (by kernel_rfl) (by kernel_rfl) (by kernel_rfl) (fun _ _ _ h => h) (Or.inl ⟨by kernel_rfl, ?hy23⟩) (by assumption) ?_
          case hy23 => (intro w hSw; (try dsimp only at hSw); go_simp; try with_reducible rfl)
          try simp only [Act.put, List.getElem_toArray, List.getElem_cons_zero, List.getElem_cons_succ, List.setIfInBounds_toArray, List.set_cons_zero, List.set_cons_succ]
          refine wpAnyH_take (i := 25) (v := ?_) rfl (by kernel_rfl) (by kernel_rfl) (by kernel_rfl) (fun _ _ _ h => h) (Or.inl ⟨by kernel_rfl, ?hy25⟩) (by assumption) ?_
          case hy25 => (intro w hSw; (try dsimp only at hSw); go_simp; try with_reducible rfl)
          try simp only [Act.put, List.getElem_toArray, List.getElem_cons_zero, List.getElem_cons_succ, List.setIfInBounds_toArray, List.set_cons_zero, List.set_cons_succ]
          refine wpAnyH_take (i := 26) (v := ?_) rfl (by kernel_rfl) (by kernel_rfl) (by kernel_rfl) (fun _ _ _ h => h) (Or.inl ⟨by kernel_rfl, ?hy26⟩) (by assumption) ?_
          case hy26 => (intro w hSw; (try dsimp only at hSw); go_simp; try with_reducible rfl)
          try simp only [Act.put, List.getElem_toArray, List.getElem_cons_zero, List.getElem_cons_succ, List.setIfInBounds_toArray, List.set_cons_zero, List.set_cons_succ]
          refine wpAnyH_ready (rs := [24]) (by kernel_rfl) (by simp) ?_
          refine AllReadyH.cons rfl (fun K hK => ?_) AllReadyH.nil
          go_simp
          go_wp2_with fail
          refine (CM.out _).mono ?_
          rintro e u24 ⟨rfl, hb⟩
          have hS' := Below.on hHeld hb
          refine hK.out _ _ hS' (fun _ => ?_)
          clear hK K
          refine wpAnyH_mono (S' := fun x => Below u24.heap.size u24 x) (fun x hx => Below.on hS' hx) ?_
          replace bw := Below.on bw hb
          replace tf0 := fun x hx => tf0 x (Below.on hS' hx)
          replace tf1 := fun x hx => tf1 x (Below.on hS' hx)
          replace tf2 := fun x hx => tf2 x (Below.on hS' hx)
          clear hHeld hb hS'
          have hHeld : Below u24.heap.size u24 u24 := Below.refl _ _
          refine wpAnyH_take (i := 27) (v := ?_) rfl (by kernel_rfl) (by kernel_rfl) (by kernel_rfl) (fun _ _ _ h => h) (Or.inl ⟨by kernel_rfl, ?hy27⟩) (by assumption) ?_
          case hy27 => (intro w hSw; (try dsimp only at hSw); go_simp; try with_reducible rfl)
          try simp only [Act.put, List.getElem_toArray, List.getElem_cons_zero, List.getElem_cons_succ, List.setIfInBounds_toArray, List.set_cons_zero, List.set_cons_succ]
          refine wpAnyH_take (i := 28) (v := ?_) rfl (by kernel_rfl) (by kernel_rfl) (by kernel_rfl) (fun _ _ _ h => h) (Or.inl ⟨by kernel_rfl, ?hy28⟩) (by assumption) ?_
          case hy28 => (intro w hSw; (try dsimp only at hSw); go_simp; try with_reducible rfl)
          try simp only [Act.put, List.getElem_toArray, List.getElem_cons_zero, List.getElem_cons_succ, List.setIfInBounds_toArray, List.set_cons_zero, List.set_cons_succ]
          refine wpAnyH_take (i := 29) (v := ?_) rfl (by kernel_rfl) (by kernel_rfl) (by kernel_rfl) (fun _ _ _ h => h) (Or.inl ⟨by kernel_rfl, ?hy29⟩) (by assumption) ?_
          case hy29 => (intro w hSw; (try dsimp only at hSw); go_simp; try with_reducible rfl)
          try simp only [Act.put, List.getElem_toArray, List.getElem_cons_zero, List.getElem_cons_succ, List.setIfInBounds_toArray, List.set_cons_zero, List.set_cons_succ]
          refine wpAnyH_take (i := 30) (v := ?_) rfl (by kernel_rfl) (by kernel_rfl) (by kernel_rfl) (fun _ _ _ h => h) (Or.inl ⟨by kernel_rfl, ?hy30⟩) (by assumption) ?_
          case hy30 => (intro w hSw; (try dsimp only at hSw); go_simp; try with_reducible rfl)
          try simp only [Act.put, List.getElem_toArray, List.getElem_cons_zero, List.getElem_cons_succ, List.setIfInBounds_toArray, List.set_cons_zero, List.set_cons_succ]
          refine wpAnyH_take (i := 31) (v := ?_) rfl (by kernel_rfl) (by kernel_rfl) (by kernel_rfl) (fun _ _ _ h => h) (Or.inl ⟨by kernel_rfl, ?hy31⟩) (by assumption) ?_
          case hy31 => (intro w hSw; (try dsimp only at hSw); go_simp; try with_reducible rfl)
          try simp only [Act.put, List.getElem_toArray, List.getElem_cons_zero, List.getElem_cons_succ, List.setIfInBounds_toArray, List.set_cons_zero, List.set_cons_succ]
          refine wpAnyH_take (i := 33) (v := ?_) rfl (by kernel_rfl) (by kernel_rfl) (by kernel_rfl) (fun _ _ _ h => h) (Or.inl ⟨by kernel_rfl, ?hy33⟩) (by assumption) ?_
          case hy33 => (intro w hSw; (try dsimp only at hSw); go_simp; try with_reducible rfl)
          try simp only [Act.put, List.getElem_toArray, List.getElem_cons_zero, List.getElem_cons_succ, List.setIfInBounds_toArray, List.set_cons_zero, List.set_cons_succ]
          refine wpAnyH_take (i := 34) (v := ?_) rfl (by kernel_rfl) (by kernel_rfl) (by kernel_rfl) (fun _ _ _ h => h) (Or.inl ⟨by kernel_rfl, ?hy34⟩) (by assumption) ?_
          case hy34 => (intro w hSw; (try dsimp only at hSw); go_simp; try with_reducible rfl)
          try simp only [Act.put, List.getElem_toArray, List.getElem_cons_zero, List.getElem_cons_succ, List.setIfInBounds_toArray, List.set_cons_zero, List.set_cons_succ]
          refine wpAnyH_ready (rs := [32]) (by kernel_rfl) (by simp) ?_
          refine AllReadyH.cons rfl (fun K hK => ?_) AllReadyH.nil
          go_simp
          go_wp2_with fail
          refine (CE.out _).mono ?_
          rintro e u32 ⟨rfl, hb⟩
          have hS' := Below.on hHeld hb
          refine hK.out _ _ hS' (fun _ => ?_)
          clear hK K
          refine wpAnyH_mono (S' := fun x => Below u32.heap.size u32 x) (fun x hx => Below.on hS' hx) ?_
          replace bw := Below.on bw hb
          replace tf0 := fun x hx => tf0 x (Below.on hS' hx)
          replace tf1 := fun x hx => tf1 x (Below.on hS' hx)
          replace tf2 := fun x hx => tf2 x (Below.on hS' hx)
          clear hHeld hb hS'
          have hHeld : Below u32.heap.size u32 u32 := Below.refl _ _
          refine wpAnyH_take (i := 35) (v := ?_) rfl (by kernel_rfl) (by kernel_rfl) (by kernel_rfl) (fun _ _ _ h => h) (Or.inl ⟨by kernel_rfl, ?hy35⟩) (by assumption) ?_
          case hy35 => (intro w hSw; (try dsimp only at hSw); go_simp; try with_reducible rfl)
          try simp only [Act.put, List.getElem_toArray, List.getElem_cons_zero, List.getElem_cons_succ, List.setIfInBounds_toArray, List.set_cons_zero, List.set_cons_succ]
          refine wpAnyH_take (i := 36) (v := ?_) rfl (by kernel_rfl) (by kernel_rfl) (by kernel_rfl) (fun _ _ _ h => h) (Or.inl ⟨by kernel_rfl, ?hy36⟩) (by assumption) ?_
          case hy36 => (intro w hSw; (try dsimp only at hSw); go_simp; try with_reducible rfl)
          try simp only [Act.put, List.getElem_toArray, List.getElem_cons_zero, List.getElem_cons_succ, List.setIfInBounds_toArray, List.set_cons_zero, List.set_cons_succ]
          refine wpAnyH_done (by kernel_rfl) ?_ _
          clear g1 g2 k1 k2 tf0 tf1 tf2 CM CE
          have H6 : Hid (Below w.heap.size w u32) := Below.on H5.out bw
          clear bw H5
          clear hHeld
          cases q1 <;> cases q2
          all_goals
            go_wp2
            have e1 := HRn.out
            have e2 := HEn.out
            simp only [if_true, Bool.false_eq_true, if_false, Nat.add_zero] at e1 e2
            exact ⟨⟨O + 1, by omega, congrArg (Value.int .i64) (by omega), congrArg (Value.int .i64) (by omega), congrArg (Value.int .i64) (by omega), H6.out⟩, by simp [intOf]; omega⟩
end Go.Proofs.YtadklnjkkmfhdaaDoor.sigTable
