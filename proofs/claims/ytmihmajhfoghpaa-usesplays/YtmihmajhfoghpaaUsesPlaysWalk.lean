/- UsesPlays: for every list of lists and every number the call returns true; nothing that was there has turned. -/
import Derived.Test.YtmihmajhfoghpaaUseH
import Derived.Test.YtmihmajhfoghpaaOpn12
import Derived.Deep.DeepCutAuto
import Derived.Deep.CutRange
import Derived.BigQuiet
namespace Go.Proofs.Ytmihmajhfoghpaa.usesPlays
open Go Go.RowKit

set_option maxRecDepth 100000 in
set_option maxHeartbeats 4000000 in
theorem walk (s : Option Addr) (n c : Nat) (A : List (List Int)) (id : Int) (w : World) (h0 : RdL w s n c A) (h1 : (Lit.int .i64 id).wf = true) :
    Calls Try.prog 3 #[.slice s n c, .int .i64 id] w fun e w' => e = .returned (.bool true) ∧ Below w.heap.size w w' := by
  have H0 := hid h0
  have HI := hid (of_wf64 h1)
  have hle := h0.le
  have hmx := h0.max
  simp only [maxLen] at hmx
  clear h0 h1
  go_enter Try.func3, Try.ntmps3
  go_wp2_with fail
  refine (usnew w w (Below.refl _ _)).mono ?_
  rintro e w2 ⟨rfl, hU⟩
  generalize w.heap.size + 2 = p at hU ⊢
  have HB := hid (Ub.new w w2 hU)
  clear hU
  go_wp2
  obtain ⟨q, hq⟩ : ∃ q, q = w2.heap.size := ⟨_, rfl⟩
  rw [← hq] at HB ⊢
  clear hq
  have fin : ∀ x, Below w.heap.size w x → Calls Try.prog 7 #[] x fun e y => e = .returned (.bool true) ∧ Below w.heap.size w y := fun x hx => by
    refine (uawake_any x).mono ?_
    rintro e y ⟨rfl, hb⟩
    exact ⟨rfl, Below.on hx hb⟩
  have HF := hid fin
  clear fin
  go_loopw [7] (fun i wx => ∃ j : Nat, i = .int .i64 j ∧ j ≤ 40 ∧ ∃ L told, Ub w wx p q L told L told [] ∧ told.length ≤ 50 * j ∧ L.length ≤ 50) (fun i _ => 40 - (numOf i).toNat)
  case atStart => exact ⟨0, rfl, by omega, [], [], HB.out, by simp, by simp⟩
  case round =>
    obtain ⟨j, rfl, hj, L, told, hB, htl, hLl⟩ := hrel
    have HB2 := hid hB
    clear HB
    by_cases hgo : j < n ∧ j < 40
    · have e1 : decide ((j : Int) < n) = true := decide_eq_true (by omega)
      have e2 : decide ((j : Int) < 40) = true := decide_eq_true (by omega)
      obtain ⟨b0, off, zs, a', n', c', rfl, hb0, ac, hrd⟩ := H0.out.at_ j hgo.1
      have HAC := hid ac
      have HRD := hid hrd
      have hl1 := hrd.le
      have hl2 := hrd.max
      simp only [maxLen] at hl2
      have c0 := ac
      rw [← hB.bel.cell hb0] at c0
      have hlb : b0 < wr.heap.size := Nat.lt_of_lt_of_le hb0 hB.bel.size
      have hjn : (j : Int) < n := by omega
      clear hrd hB ac
      by_cases hbig : 50 < n'
      · have e3 : decide (50 < (n' : Int)) = true := decide_eq_true (by omega)
        have HFF := hid (HF.out _ HB2.out.bel)
        go_wp2_with fail
        refine HFF.out.mono ?_
        rintro e y ⟨rfl, hb⟩
        go_wp2
        go_ret
        exact ⟨rfl, hb⟩
      · have e3 : decide (50 < (n' : Int)) = false := decide_eq_false (by omega)
        have HIZ : Hid (∀ z ∈ zs, I64 z) := fun z hz => of_wf64 (HRD.out.wf z hz)
        have HZL := hid HRD.out.len
        have hO := HB2.out.on (Below.refl _ _).drew
        have n1 : ∀ z : Int, (z != z) = false := fun z => by simp
        have HAX : Hid (∀ x, Below w.heap.size w x → x.cell? ⟨b0, off + j, none⟩ = some (.slice a' n' c') ∧ b0 < x.heap.size) := fun x hx => ⟨by rw [hx.cell hb0]; exact HAC.out, Nat.lt_of_lt_of_le hb0 hx.size⟩
        clear HB2
        go_wp2_with fail
        clear c0 hlb
        have hHeld := And.intro (HAX.out _ hO.bel) trivial
        refine wp_region_held_drew (S := fun x => (x.cell? ⟨b0, off + j, none⟩ = some (.slice a' n' c') ∧ b0 < x.heap.size) ∧ True) (by kernel_rfl) hHeld (fun _ => ?_)
        refine wpAnyH_take (i := 0) (v := ?_) rfl (by kernel_rfl) (by kernel_rfl) (by kernel_rfl) (fun _ _ _ h => h) (Or.inl ⟨by kernel_rfl, ?hy0⟩) (by assumption) ?_
        case hy0 => (intro w hSw; (try dsimp only at hSw); obtain ⟨⟨t0, t1⟩, t2⟩ := hSw; go_simp; try with_reducible rfl)
        try simp only [Act.put, List.getElem_toArray, List.getElem_cons_zero, List.setIfInBounds_toArray, List.set_cons_zero, List.set_cons_succ]
        refine wpAnyH_take (i := 1) (v := ?_) rfl (by kernel_rfl) (by kernel_rfl) (by kernel_rfl) (fun _ _ _ h => h) (Or.inl ⟨by kernel_rfl, ?hy1⟩) (by assumption) ?_
        case hy1 => (intro w hSw; (try dsimp only at hSw); obtain ⟨⟨t0, t1⟩, t2⟩ := hSw; go_simp; try with_reducible rfl)
        try simp only [Act.put, List.getElem_toArray, List.getElem_cons_zero, List.getElem_cons_succ, List.setIfInBounds_toArray, List.set_cons_zero, List.set_cons_succ]
        refine wpAnyH_take (i := 2) (v := ?_) rfl (by kernel_rfl) (by kernel_rfl) (by kernel_rfl) (fun _ _ _ h => h) (Or.inl ⟨by kernel_rfl, ?hy2⟩) (by assumption) ?_
        case hy2 => (intro w hSw; (try dsimp only at hSw); obtain ⟨⟨t0, t1⟩, t2⟩ := hSw; go_simp; try with_reducible rfl)
        try simp only [Act.put, List.getElem_toArray, List.getElem_cons_zero, List.getElem_cons_succ, List.setIfInBounds_toArray, List.set_cons_zero, List.set_cons_succ]
        refine wpAnyH_take (i := 3) (v := ?_) rfl (by kernel_rfl) (by kernel_rfl) (by kernel_rfl) (fun _ _ _ h => h) (Or.inl ⟨by kernel_rfl, ?hy3⟩) (by assumption) ?_
        case hy3 => (intro w hSw; (try dsimp only at hSw); obtain ⟨⟨t0, t1⟩, t2⟩ := hSw; go_simp; try with_reducible rfl)
        try simp only [Act.put, List.getElem_toArray, List.getElem_cons_zero, List.getElem_cons_succ, List.setIfInBounds_toArray, List.set_cons_zero, List.set_cons_succ]
        refine wpAnyH_take (i := 4) (v := ?_) rfl (by kernel_rfl) (by kernel_rfl) (by kernel_rfl) (fun _ _ _ h => h) (Or.inl ⟨by kernel_rfl, ?hy4⟩) (by assumption) ?_
        case hy4 => (intro w hSw; (try dsimp only at hSw); obtain ⟨⟨t0, t1⟩, t2⟩ := hSw; go_simp; try with_reducible rfl)
        try simp only [Act.put, List.getElem_toArray, List.getElem_cons_zero, List.getElem_cons_succ, List.setIfInBounds_toArray, List.set_cons_zero, List.set_cons_succ]
        refine wpAnyH_take (i := 7) (v := ?_) rfl (by kernel_rfl) (by kernel_rfl) (by kernel_rfl) (fun _ _ _ h => h) (Or.inl ⟨by kernel_rfl, ?hy7⟩) (by assumption) ?_
        case hy7 => (intro w hSw; (try dsimp only at hSw); obtain ⟨⟨t0, t1⟩, t2⟩ := hSw; go_simp; try with_reducible rfl)
        try simp only [Act.put, List.getElem_toArray, List.getElem_cons_zero, List.getElem_cons_succ, List.setIfInBounds_toArray, List.set_cons_zero, List.set_cons_succ]
        refine wpAnyH_take (i := 8) (v := ?_) rfl (by kernel_rfl) (by kernel_rfl) (by kernel_rfl) (fun _ _ _ h => h) (Or.inl ⟨by kernel_rfl, ?hy8⟩) (by assumption) ?_
        case hy8 => (intro w hSw; (try dsimp only at hSw); obtain ⟨⟨t0, t1⟩, t2⟩ := hSw; go_simp; try with_reducible rfl)
        try simp only [Act.put, List.getElem_toArray, List.getElem_cons_zero, List.getElem_cons_succ, List.setIfInBounds_toArray, List.set_cons_zero, List.set_cons_succ]
        refine wpAnyH_take (i := 9) (v := ?_) rfl (by kernel_rfl) (by kernel_rfl) (by kernel_rfl) (fun _ _ _ h => h) (Or.inl ⟨by kernel_rfl, ?hy9⟩) (by assumption) ?_
        case hy9 => (intro w hSw; (try dsimp only at hSw); obtain ⟨⟨t0, t1⟩, t2⟩ := hSw; go_simp; try with_reducible rfl)
        try simp only [Act.put, List.getElem_toArray, List.getElem_cons_zero, List.getElem_cons_succ, List.setIfInBounds_toArray, List.set_cons_zero, List.set_cons_succ]
        refine wpAnyH_take (i := 10) (v := ?_) rfl (by kernel_rfl) (by kernel_rfl) (by kernel_rfl) (fun _ _ _ h => h) (Or.inl ⟨by kernel_rfl, ?hy10⟩) (by assumption) ?_
        case hy10 => (intro w hSw; (try dsimp only at hSw); obtain ⟨⟨t0, t1⟩, t2⟩ := hSw; go_simp; try with_reducible rfl)
        try simp only [Act.put, List.getElem_toArray, List.getElem_cons_zero, List.getElem_cons_succ, List.setIfInBounds_toArray, List.set_cons_zero, List.set_cons_succ]
        refine wpAnyH_take (i := 11) (v := ?_) rfl (by kernel_rfl) (by kernel_rfl) (by kernel_rfl) (fun _ _ _ h => h) (Or.inl ⟨by kernel_rfl, ?hy11⟩) (by assumption) ?_
        case hy11 => (intro w hSw; (try dsimp only at hSw); obtain ⟨⟨t0, t1⟩, t2⟩ := hSw; go_simp; try with_reducible rfl)
        try simp only [Act.put, List.getElem_toArray, List.getElem_cons_zero, List.getElem_cons_succ, List.setIfInBounds_toArray, List.set_cons_zero, List.set_cons_succ]
        refine wpAnyH_ready (rs := [5]) (by kernel_rfl) (by simp) ?_
        refine AllReadyH.cons rfl (fun K hK => ?_) AllReadyH.nil
        go_simp
        go_wp2_with fail
        refine (ints_any a' n' c' zs (HRD.out.on hO.bel) (by omega)).mono ?_
        rintro e x5 ⟨v5, rfl, hv5, hb5⟩
        replace hO := hO.on hb5
        obtain ⟨a5, c5, rfl, hr5, -⟩ := rdi_of_owns hv5 HIZ.out
        have HR5 := hid hr5
        clear hv5 hb5 hr5
        refine hK.out _ _ (And.intro (HAX.out _ hO.bel) trivial) (fun _ => ?_)
        clear hK K hHeld
        have hHeld := And.intro (HAX.out _ hO.bel) trivial
        refine wpAnyH_ready (rs := [6]) (by kernel_rfl) (by simp) ?_
        refine AllReadyH.cons rfl (fun K hK => ?_) AllReadyH.nil
        go_simp
        go_wp2_with fail
        refine (hO.now a5 zs.length c5 HR5.out (by rw [HZL.out]; omega) (by omega)).mono ?_
        rintro e x6 ⟨v6, rfl, hv6, hO6, -⟩
        obtain ⟨a6, c6, rfl, -⟩ := rdz_of hv6
        have HV6 := hid hv6
        clear hO hv6 HR5
        have hO := hO6
        clear hO6
        refine hK.out _ _ (And.intro (HAX.out _ hO.bel) trivial) (fun _ => ?_)
        clear hK K hHeld
        have hHeld := And.intro (HAX.out _ hO.bel) trivial
        refine wpAnyH_ready (rs := [12]) (by kernel_rfl) (by simp) ?_
        refine AllReadyH.cons rfl (fun K hK => ?_) AllReadyH.nil
        go_simp
        go_wp2_with fail
        refine (hO.rnow a' n' c' (HRD.out.on hO.bel) (by omega) (by omega)).mono ?_
        rintro e x12 ⟨v12, rfl, hv12, hO12, hk12⟩
        obtain ⟨a66, c66, e66, hz6⟩ := rdz_of (ownsRow_heap HV6.out (fun k hk => hk12 k (by simp [hk])))
        cases e66
        obtain ⟨a12, c12, rfl, hz12⟩ := rdz_of hv12
        have HZ6 := hid hz6
        have HZ12 := hid hz12
        clear hO hv12 hk12 hz6 hz12 HV6
        have hO := hO12.drop (J := []) (by simp)
        clear hO12
        obtain ⟨aL, cL, hcL, hzL⟩ := hO.row
        have HZM := hid hzL
        clear hzL
        refine hK.out _ _ (And.intro (HAX.out _ hO.bel) trivial) (fun _ => ?_)
        clear hK K hHeld
        refine wpAnyH_mono (S' := fun x => (x.cell? ⟨b0, off + j, none⟩ = some (.slice a' n' c') ∧ b0 < x.heap.size) ∧ x.cell? ⟨q, 0, none⟩ = some (.slice aL (setOf zs).length cL)) (fun _ h => And.intro h.1 trivial) ?_
        have hHeld := And.intro (HAX.out _ hO.bel) hcL
        refine wpAnyH_ready (rs := [13]) (by kernel_rfl) (by simp) ?_
        refine AllReadyH.cons rfl (fun K hK => ?_) AllReadyH.nil
        go_simp
        go_wp2_with fail
        refine (same_any a6 _ c6 a12 c12 (gone L zs) _ HZ6.out HZ12.out (Nat.le_trans (gone_length L zs) (by omega))).mono ?_
        rintro e x13 ⟨rfl, hb⟩
        replace hO := hO.on hb
        replace hcL := (kp_of_below hb []).cell hcL (by simp)
        replace HZM := hid (HZM.out.on hb)
        clear hb
        clear HZ6 HZ12
        refine hK.out _ _ (And.intro (HAX.out _ hO.bel) hcL) (fun _ => ?_)
        clear hK K hHeld
        have hHeld := And.intro (HAX.out _ hO.bel) hcL
        refine wpAnyH_take (i := 14) (v := ?_) rfl (by kernel_rfl) (by kernel_rfl) (by kernel_rfl) (fun _ _ _ h => h) (Or.inl ⟨by kernel_rfl, ?hy14⟩) (by assumption) ?_
        case hy14 => (intro w hSw; (try dsimp only at hSw); obtain ⟨⟨t0, t1⟩, t2⟩ := hSw; go_simp; try with_reducible rfl)
        try simp only [Act.put, List.getElem_toArray, List.getElem_cons_zero, List.getElem_cons_succ, List.setIfInBounds_toArray, List.set_cons_zero, List.set_cons_succ]
        refine wpAnyH_take (i := 15) (v := ?_) rfl (by kernel_rfl) (by kernel_rfl) (by kernel_rfl) (fun _ _ _ h => h) (Or.inl ⟨by kernel_rfl, ?hy15⟩) (by assumption) ?_
        case hy15 => (intro w hSw; (try dsimp only at hSw); obtain ⟨⟨t0, t1⟩, t2⟩ := hSw; go_simp; try with_reducible rfl)
        try simp only [Act.put, List.getElem_toArray, List.getElem_cons_zero, List.getElem_cons_succ, List.setIfInBounds_toArray, List.set_cons_zero, List.set_cons_succ]
        refine wpAnyH_take (i := 16) (v := ?_) rfl (by kernel_rfl) (by kernel_rfl) (by kernel_rfl) (fun _ _ _ h => h) (Or.inl ⟨by kernel_rfl, ?hy16⟩) (by assumption) ?_
        case hy16 => (intro w hSw; (try dsimp only at hSw); obtain ⟨⟨t0, t1⟩, t2⟩ := hSw; go_simp; try with_reducible rfl)
        try simp only [Act.put, List.getElem_toArray, List.getElem_cons_zero, List.getElem_cons_succ, List.setIfInBounds_toArray, List.set_cons_zero, List.set_cons_succ]
        refine wpAnyH_take (i := 18) (v := ?_) rfl (by kernel_rfl) (by kernel_rfl) (by kernel_rfl) (fun _ _ _ h => h) (Or.inl ⟨by kernel_rfl, ?hy18⟩) (by assumption) ?_
        case hy18 => (intro w hSw; (try dsimp only at hSw); obtain ⟨⟨t0, t1⟩, t2⟩ := hSw; go_simp; try with_reducible rfl)
        try simp only [Act.put, List.getElem_toArray, List.getElem_cons_zero, List.getElem_cons_succ, List.setIfInBounds_toArray, List.set_cons_zero, List.set_cons_succ]
        refine wpAnyH_take (i := 19) (v := ?_) rfl (by kernel_rfl) (by kernel_rfl) (by kernel_rfl) (fun _ _ _ h => h) (Or.inl ⟨by kernel_rfl, ?hy19⟩) (by assumption) ?_
        case hy19 => (intro w hSw; (try dsimp only at hSw); obtain ⟨⟨t0, t1⟩, t2⟩ := hSw; go_simp; try with_reducible rfl)
        try simp only [Act.put, List.getElem_toArray, List.getElem_cons_zero, List.getElem_cons_succ, List.setIfInBounds_toArray, List.set_cons_zero, List.set_cons_succ]
        refine wpAnyH_take (i := 20) (v := ?_) rfl (by kernel_rfl) (by kernel_rfl) (by kernel_rfl) (fun _ _ _ h => h) (Or.inl ⟨by kernel_rfl, ?hy20⟩) (by assumption) ?_
        case hy20 => (intro w hSw; (try dsimp only at hSw); obtain ⟨⟨t0, t1⟩, t2⟩ := hSw; go_simp; try with_reducible rfl)
        try simp only [Act.put, List.getElem_toArray, List.getElem_cons_zero, List.getElem_cons_succ, List.setIfInBounds_toArray, List.set_cons_zero, List.set_cons_succ]
        refine wpAnyH_take (i := 21) (v := ?_) rfl (by kernel_rfl) (by kernel_rfl) (by kernel_rfl) (fun _ _ _ h => h) (Or.inl ⟨by kernel_rfl, ?hy21⟩) (by assumption) ?_
        case hy21 => (intro w hSw; (try dsimp only at hSw); obtain ⟨⟨t0, t1⟩, t2⟩ := hSw; go_simp; try with_reducible rfl)
        try simp only [Act.put, List.getElem_toArray, List.getElem_cons_zero, List.getElem_cons_succ, List.setIfInBounds_toArray, List.set_cons_zero, List.set_cons_succ]
        refine wpAnyH_ready (rs := [17]) (by kernel_rfl) (by simp) ?_
        refine AllReadyH.cons rfl (fun K hK => ?_) AllReadyH.nil
        go_simp
        go_wp2_with fail
        refine hO.held.mono ?_
        rintro e x17 ⟨v17, rfl, hv17, hO17, hb⟩
        obtain ⟨a17, c17, rfl, hz17⟩ := rdz_of hv17
        have HZ17 := hid hz17
        clear hO hv17 hz17
        have hO := hO17
        clear hO17
        replace hcL := (kp_of_below hb []).cell hcL (by simp)
        replace HZM := hid (HZM.out.on hb)
        clear hb
        refine hK.out _ _ (And.intro (HAX.out _ hO.bel) hcL) (fun _ => ?_)
        clear hK K hHeld
        have hHeld := And.intro (HAX.out _ hO.bel) hcL
        refine wpAnyH_ready (rs := [22]) (by kernel_rfl) (by simp) ?_
        refine AllReadyH.cons rfl (fun K hK => ?_) AllReadyH.nil
        go_simp
        go_wp2_with fail
        refine (same_any a17 _ c17 aL cL (setOf zs) _ HZ17.out HZM.out (Nat.le_trans (setOf_length zs) (by rw [HZL.out]; omega))).mono ?_
        rintro e x22 ⟨rfl, hb⟩
        replace hO := hO.on hb
        replace hcL := (kp_of_below hb []).cell hcL (by simp)
        replace HZM := hid (HZM.out.on hb)
        clear hb
        clear HZ17
        refine hK.out _ _ (And.intro (HAX.out _ hO.bel) hcL) (fun _ => ?_)
        clear hK K hHeld
        have hHeld := And.intro (HAX.out _ hO.bel) hcL
        refine wpAnyH_take (i := 23) (v := ?_) rfl (by kernel_rfl) (by kernel_rfl) (by kernel_rfl) (fun _ _ _ h => h) (Or.inl ⟨by kernel_rfl, ?hy23⟩) (by assumption) ?_
        case hy23 => (intro w hSw; (try dsimp only at hSw); obtain ⟨⟨t0, t1⟩, t2⟩ := hSw; go_simp; try with_reducible rfl)
        try simp only [Act.put, List.getElem_toArray, List.getElem_cons_zero, List.getElem_cons_succ, List.setIfInBounds_toArray, List.set_cons_zero, List.set_cons_succ]
        refine wpAnyH_take (i := 24) (v := ?_) rfl (by kernel_rfl) (by kernel_rfl) (by kernel_rfl) (fun _ _ _ h => h) (Or.inl ⟨by kernel_rfl, ?hy24⟩) (by assumption) ?_
        case hy24 => (intro w hSw; (try dsimp only at hSw); obtain ⟨⟨t0, t1⟩, t2⟩ := hSw; go_simp; try with_reducible rfl)
        try simp only [Act.put, List.getElem_toArray, List.getElem_cons_zero, List.getElem_cons_succ, List.setIfInBounds_toArray, List.set_cons_zero, List.set_cons_succ]
        refine wpAnyH_take (i := 25) (v := ?_) rfl (by kernel_rfl) (by kernel_rfl) (by kernel_rfl) (fun _ _ _ h => h) (Or.inl ⟨by kernel_rfl, ?hy25⟩) (by assumption) ?_
        case hy25 => (intro w hSw; (try dsimp only at hSw); obtain ⟨⟨t0, t1⟩, t2⟩ := hSw; go_simp; try with_reducible rfl)
        try simp only [Act.put, List.getElem_toArray, List.getElem_cons_zero, List.getElem_cons_succ, List.setIfInBounds_toArray, List.set_cons_zero, List.set_cons_succ]
        refine wpAnyH_take (i := 26) (v := ?_) rfl (by kernel_rfl) (by kernel_rfl) (by kernel_rfl) (fun _ _ _ h => h) (Or.inl ⟨by kernel_rfl, ?hy26⟩) (by assumption) ?_
        case hy26 => (intro w hSw; (try dsimp only at hSw); obtain ⟨⟨t0, t1⟩, t2⟩ := hSw; go_simp; try with_reducible rfl)
        try simp only [Act.put, List.getElem_toArray, List.getElem_cons_zero, List.getElem_cons_succ, List.setIfInBounds_toArray, List.set_cons_zero, List.set_cons_succ]
        refine wpAnyH_take (i := 27) (v := ?_) rfl (by kernel_rfl) (by kernel_rfl) (by kernel_rfl) (fun _ _ _ h => h) (Or.inl ⟨by kernel_rfl, ?hy27⟩) (by assumption) ?_
        case hy27 => (intro w hSw; (try dsimp only at hSw); obtain ⟨⟨t0, t1⟩, t2⟩ := hSw; go_simp; try with_reducible rfl)
        try simp only [Act.put, List.getElem_toArray, List.getElem_cons_zero, List.getElem_cons_succ, List.setIfInBounds_toArray, List.set_cons_zero, List.set_cons_succ]
        refine wpAnyH_take (i := 29) (v := ?_) rfl (by kernel_rfl) (by kernel_rfl) (by kernel_rfl) (fun _ _ _ h => h) (Or.inl ⟨by kernel_rfl, ?hy29⟩) (by assumption) ?_
        case hy29 => (intro w hSw; (try dsimp only at hSw); obtain ⟨⟨t0, t1⟩, t2⟩ := hSw; go_simp; try with_reducible rfl)
        try simp only [Act.put, List.getElem_toArray, List.getElem_cons_zero, List.getElem_cons_succ, List.setIfInBounds_toArray, List.set_cons_zero, List.set_cons_succ]
        refine wpAnyH_take (i := 30) (v := ?_) rfl (by kernel_rfl) (by kernel_rfl) (by kernel_rfl) (fun _ _ _ h => h) (Or.inl ⟨by kernel_rfl, ?hy30⟩) (by assumption) ?_
        case hy30 => (intro w hSw; (try dsimp only at hSw); obtain ⟨⟨t0, t1⟩, t2⟩ := hSw; go_simp; try with_reducible rfl)
        try simp only [Act.put, List.getElem_toArray, List.getElem_cons_zero, List.getElem_cons_succ, List.setIfInBounds_toArray, List.set_cons_zero, List.set_cons_succ]
        refine wpAnyH_ready (rs := [28]) (by kernel_rfl) (by simp) ?_
        refine AllReadyH.cons rfl (fun K hK => ?_) AllReadyH.nil
        go_simp
        go_wp2_with fail
        refine (hO.times id HI.out).mono ?_
        rintro e u228 ⟨rfl, rfl⟩
        refine hK.out _ _ hHeld (fun _ => ?_)
        clear hK K
        refine wpAnyH_ready (rs := [31]) (by kernel_rfl) (by simp) ?_
        refine AllReadyH.cons rfl (fun K hK => ?_) AllReadyH.nil
        go_simp
        go_wp2_with fail
        refine (hO.rtimes id).mono ?_
        rintro e u231 ⟨rfl, rfl⟩
        refine hK.out _ _ hHeld (fun _ => ?_)
        clear hK K
        refine wpAnyH_take (i := 32) (v := ?_) rfl (by kernel_rfl) (by kernel_rfl) (by kernel_rfl) (fun _ _ _ h => h) (Or.inl ⟨by kernel_rfl, ?hy32⟩) (by assumption) ?_
        case hy32 => (intro w hSw; (try dsimp only at hSw); obtain ⟨⟨t0, t1⟩, t2⟩ := hSw; go_simp; try with_reducible rfl)
        try simp only [Act.put, List.getElem_toArray, List.getElem_cons_zero, List.getElem_cons_succ, List.setIfInBounds_toArray, List.set_cons_zero, List.set_cons_succ]
        refine wpAnyH_take (i := 33) (v := ?_) rfl (by kernel_rfl) (by kernel_rfl) (by kernel_rfl) (fun _ _ _ h => h) (Or.inl ⟨by kernel_rfl, ?hy33⟩) (by assumption) ?_
        case hy33 => (intro w hSw; (try dsimp only at hSw); obtain ⟨⟨t0, t1⟩, t2⟩ := hSw; go_simp; try with_reducible rfl)
        try simp only [Act.put, List.getElem_toArray, List.getElem_cons_zero, List.getElem_cons_succ, List.setIfInBounds_toArray, List.set_cons_zero, List.set_cons_succ]
        refine wpAnyH_done (by kernel_rfl) ?_ _
        go_wp2
        have h1 := gone_length L zs
        have h2 := setOf_length zs
        have h3 := HZL.out
        exact ⟨⟨j + 1, by go_num, by omega, _, _, hO, by rw [List.length_append]; omega, by omega⟩, by simp [numOf]; omega⟩
    · have HFF := hid (HF.out _ HB2.out.bel)
      clear hB HB2
      by_cases h1 : j < n
      · have e1 : decide ((j : Int) < n) = true := decide_eq_true (by omega)
        have e2 : decide ((j : Int) < 40) = false := decide_eq_false (by omega)
        go_wp2_with fail
        refine HFF.out.mono ?_
        rintro e y ⟨rfl, hb⟩
        go_wp2
        go_ret
        exact ⟨rfl, hb⟩
      · have e1 : decide ((j : Int) < n) = false := decide_eq_false (by omega)
        go_wp2_with fail
        refine HFF.out.mono ?_
        rintro e y ⟨rfl, hb⟩
        go_wp2
        go_ret
        exact ⟨rfl, hb⟩
end Go.Proofs.Ytmihmajhfoghpaa.usesPlays
