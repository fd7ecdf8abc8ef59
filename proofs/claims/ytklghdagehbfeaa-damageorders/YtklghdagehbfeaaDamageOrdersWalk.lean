/- DamageOrders: for every list of rectangles and a number the call returns true; nothing that was there has turned. -/
import Derived.Test.YtklghdagehbfeaaDmgD
import Derived.Test.YtklghdagehbfeaaRgfH
namespace Go.Proofs.Ytklghdagehbfeaa.damageOrders
open Go Go.RowKit

set_option maxRecDepth 100000 in
set_option maxHeartbeats 1000000 in
theorem core (a0 : Option Addr) (c0 : Nat) (A : List Rc) (x : Int) (hx : -9223372036854775808 ≤ x ∧ x ≤ 9223372036854775807) (w : World) (r0 : RdC w a0 A.length c0 A) :
    Calls Try.prog 6 #[.slice a0 A.length c0, .int .i64 x] w fun e w' => e = .returned (.bool true) ∧ Below w.heap.size w w' := by
  have hs := r0.small
  have HBel := hid (Below.refl w.heap.size w)
  by_cases hA : 5 < A.length
  · have e1 : decide (5 < (A.length : Int)) = true := decide_eq_true (by omega)
    clear r0
    go_enter Try.func6, Try.ntmps6
    go_wp2_with fail
    refine (dawake_any _).mono ?_
    rintro e w2 ⟨rfl, hb2⟩
    replace HBel := hid (Below.on HBel.out hb2)
    clear hb2
    go_wp2
    go_ret
    exact ⟨rfl, HBel.out⟩
  have e1 : decide (5 < (A.length : Int)) = false := decide_eq_false (by omega)
  rcases Nat.eq_zero_or_pos A.length with h0 | h0
  · clear r0
    rw [h0] at e1 hs ⊢
    go_enter Try.func6, Try.ntmps6
    go_wp2_with fail
    refine (dawake_any _).mono ?_
    rintro e w2 ⟨rfl, hb2⟩
    replace HBel := hid (Below.on HBel.out hb2)
    clear hb2
    go_wp2
    go_ret
    exact ⟨rfl, HBel.out⟩
  have e2 : decide ((A.length : Int) = 0) = false := decide_eq_false (by omega)
  have e3 : ((A.length : Int) == 0) = false := by
    have h1 : ¬ ((A.length : Int) = 0) := by omega
    simp only [beq_eq_false_iff_ne, ne_eq]
    exact h1
  have q1 := plc_lt x A.length h0
  have CP := hid (fun u => place_any x A.length hx h0 (by omega) u)
  generalize plc x A.length = k at q1 CP
  obtain ⟨b, off, r, rfl, hbs, hr, ok, he⟩ := r0.el q1
  have EL := hid he
  have HA := hid r0
  have hle := r0.le
  have hcc : ¬ (c0 = k) := by omega
  have hkc : k ≤ c0 := by omega
  have hkn : k ≤ A.length := by omega
  have hD : (A.drop k).length = A.length - k := List.length_drop
  have hT : (A.take k).length = k := by rw [List.length_take]; omega
  have HSD := hid (((r0.drop (Nat.le_of_lt q1)).on (Below.refl w.heap.size w).drew).src (P := Try.prog) (t := 22) Try.underlying22)
  have HT := hid (r0.take (Nat.le_of_lt q1))
  have HO0 : Hid (OwC w w.drew (.slice none 0 0) []) := (OwC.nil w).on (Below.refl _ _).drew
  have HOK : Hid (∀ z ∈ A.drop k ++ A.take k, z.Ok) := fun z hz => by
    rcases List.mem_append.1 hz with hz | hz
    · exact r0.ok z (List.mem_of_mem_drop hz)
    · exact r0.ok z (List.mem_of_mem_take hz)
  have hlen : A.length ≤ 6 := by omega
  have ET := hid (dfl_turn hlen k)
  have RD := dfl_reg A
  have LD := dfl_len A
  have EA := dfl_again RD LD
  have CA := hid (fun u (a : Option Addr) (c : Nat) (h : RdC u a (dfl A).length c (dfl A)) => dadd_any a _ c (dfl A) r ok u h)
  have CF := hid (fun u (a : Option Addr) (c : Nat) (h : RdC u a (dfl A).length c (dfl A)) => dflat_any a _ c (dfl A) u h)
  rw [EA, dput_few hlen (List.mem_of_getElem? hr)] at CA
  rw [EA] at CF
  have CL := hid (fun u (a : Option Addr) (c : Nat) (h : RdC u a A.length c A) => dflat_any a _ c A u h)
  have CM := hid (fun u (a : Option Addr) (c : Nat) (h : RdC u a (A.drop k ++ A.take k).length c (A.drop k ++ A.take k)) => dflat_any a _ c _ u h)
  rw [ET.out] at CM
  generalize dfl A = D at CA CF CL CM
  obtain ⟨i0, hi, hz0, hz1, hz2⟩ := info3 infoC
  have e4 : (k : Int) < A.length := by omega
  clear ET EA RD LD hr ok he r0
  go_enter Try.func6, Try.ntmps6
  go_wp2_with fail
  refine (CP.out _).mono ?_
  rintro e w1 ⟨rfl, rfl⟩
  clear CP
  go_upto_region 4 with fail
  have hHeld := (Below.refl w1.heap.size w1).drew
  refine wp_region_held_drew (S := fun q => Below w1.heap.size w1 q) (by kernel_rfl) hHeld (fun _ => ?_)
  refine wpAnyH_take (i := 0) (v := ?_) rfl (by kernel_rfl) (by kernel_rfl) (by kernel_rfl) (fun _ _ _ h => h) (Or.inl ⟨by kernel_rfl, ?hy0⟩) (by assumption) ?_
  case hy0 => (intro w hSw; (try dsimp only at hSw); go_simp; try with_reducible rfl)
  try simp only [Act.put, List.getElem_toArray, List.getElem_cons_zero, List.setIfInBounds_toArray, List.set_cons_zero, List.set_cons_succ]
  refine wpAnyH_take (i := 1) (v := ?_) rfl (by kernel_rfl) (by kernel_rfl) (by kernel_rfl) (fun _ _ _ h => h) (Or.inl ⟨by kernel_rfl, ?hy1⟩) (by assumption) ?_
  case hy1 => (intro w hSw; (try dsimp only at hSw); go_simp; try with_reducible rfl)
  try simp only [Act.put, List.getElem_toArray, List.getElem_cons_zero, List.getElem_cons_succ, List.setIfInBounds_toArray, List.set_cons_zero, List.set_cons_succ]
  refine wpAnyH_take (i := 2) (v := ?_) rfl (by kernel_rfl) (by kernel_rfl) (by kernel_rfl) (fun _ _ _ h => h) (Or.inl ⟨by kernel_rfl, ?hy2⟩) (by assumption) ?_
  case hy2 => (intro w hSw; (try dsimp only at hSw); go_simp; try with_reducible rfl)
  try simp only [Act.put, List.getElem_toArray, List.getElem_cons_zero, List.getElem_cons_succ, List.setIfInBounds_toArray, List.set_cons_zero, List.set_cons_succ]
  refine wpAnyH_take (i := 4) (v := ?_) rfl (by kernel_rfl) (by kernel_rfl) (by kernel_rfl) (fun _ _ _ h => h) (Or.inl ⟨by kernel_rfl, ?hy4⟩) (by assumption) ?_
  case hy4 => (intro w hSw; (try dsimp only at hSw); go_simp; try with_reducible rfl)
  try simp only [Act.put, List.getElem_toArray, List.getElem_cons_zero, List.getElem_cons_succ, List.setIfInBounds_toArray, List.set_cons_zero, List.set_cons_succ]
  refine wpAnyH_take (i := 5) (v := ?_) rfl (by kernel_rfl) (by kernel_rfl) (by kernel_rfl) (fun _ _ _ h => h) (Or.inl ⟨by kernel_rfl, ?hy5⟩) (by assumption) ?_
  case hy5 => (intro w hSw; (try dsimp only at hSw); go_simp; try with_reducible rfl)
  try simp only [Act.put, List.getElem_toArray, List.getElem_cons_zero, List.getElem_cons_succ, List.setIfInBounds_toArray, List.set_cons_zero, List.set_cons_succ]
  refine wpAnyH_take (i := 6) (v := ?_) rfl (by kernel_rfl) (by kernel_rfl) (by kernel_rfl) (fun _ _ _ h => h) (Or.inl ⟨by kernel_rfl, ?hy6⟩) (by assumption) ?_
  case hy6 => (intro w hSw; (try dsimp only at hSw); go_simp; try with_reducible rfl)
  try simp only [Act.put, List.getElem_toArray, List.getElem_cons_zero, List.getElem_cons_succ, List.setIfInBounds_toArray, List.set_cons_zero, List.set_cons_succ]
  refine wpAnyH_ready (rs := [3]) (by kernel_rfl) (by simp) ?_
  refine AllReadyH.cons rfl (fun K hK => ?_) AllReadyH.nil
  refine step_append_own_src rfl (.const (.slice none 0 0)) (.tmp 23) 22 22 rfl w1.heap.size 24 i0 (.agg #[.int .i64 0, .int .i64 0, .int .i64 0, .int .i64 0]) 4 32 Try.underlying22 hi hz0 hz1 hz2 rfl _ _ _ (by simp [Act.eval]) HO0.out.own _ _ _ (by simp [Act.eval]) HSD.out (by simp only [maxLen, List.length_nil]; omega) (fits32 (by simp only [List.length_nil]; omega)) HO0.out.size ?_
  intro v3 w3 o3 g3
  rw [← hD] at o3
  have HO3 := hid (HO0.out.grown (m := A.drop k) o3 g3)
  clear o3 g3 HO0 HSD
  rw [List.nil_append] at HO3
  have HST := hid ((HT.out.on HO3.out.bel).src (P := Try.prog) (t := 22) Try.underlying22)
  refine hK.out _ _ HO3.out.bel (fun _ => ?_)
  clear hK K hHeld
  have hHeld := HO3.out.bel
  try simp only [Act.put, List.getElem_toArray, List.getElem_cons_zero, List.getElem_cons_succ, List.setIfInBounds_toArray, List.set_cons_zero, List.set_cons_succ]
  refine wpAnyH_ready (rs := [7]) (by kernel_rfl) (by simp) ?_
  refine AllReadyH.cons rfl (fun K hK => ?_) AllReadyH.nil
  refine step_append_own_src rfl (.tmp 24) (.tmp 27) 22 22 rfl w1.heap.size 24 i0 (.agg #[.int .i64 0, .int .i64 0, .int .i64 0, .int .i64 0]) 4 32 Try.underlying22 hi hz0 hz1 hz2 rfl _ _ _ (by simp [Act.eval]) HO3.out.own _ _ _ (by simp [Act.eval]) HST.out (by simp only [maxLen]; omega) (fits32 (by omega)) HO3.out.size ?_
  intro v4 w4 o4 g4
  rw [show (A.drop k).length + k = (A.drop k).length + (A.take k).length by rw [hT]] at o4
  have HO4 := hid (HO3.out.grown (m := A.take k) o4 g4)
  clear o4 g4 HO3 HST
  refine hK.out _ _ HO4.out.bel (fun _ => ?_)
  clear hK K hHeld
  have hHeld := HO4.out.bel
  refine wpAnyH_take (i := 8) (v := ?_) rfl (by kernel_rfl) (by kernel_rfl) (by kernel_rfl) (fun _ _ _ h => h) (Or.inl ⟨by kernel_rfl, ?hy8⟩) (by assumption) ?_
  case hy8 => (intro w hSw; (try dsimp only at hSw); go_simp; try with_reducible rfl)
  try simp only [Act.put, List.getElem_toArray, List.getElem_cons_zero, List.getElem_cons_succ, List.setIfInBounds_toArray, List.set_cons_zero, List.set_cons_succ]
  refine wpAnyH_done (by kernel_rfl) ?_ _
  obtain ⟨am, cm, rfl, hM⟩ := rdc_of_owns HO4.out.own HOK.out
  have hL : (A.drop k ++ A.take k).length = A.length := by rw [List.length_append, hD, hT]; omega
  rw [hL] at hM CM
  obtain ⟨M, hMe⟩ : ∃ M, M = A.drop k ++ A.take k := ⟨_, rfl⟩
  rw [← hMe] at hM CM
  have HM := hid hM
  clear hMe hL
  replace HA := hid (HA.out.on hHeld)
  replace EL := hid (EL.out.on hHeld)
  replace HBel := hid hHeld
  clear hM hHeld HO4 HT HOK
  go_wp2_with fail
  refine (CL.out _ _ _ HA.out).mono ?_
  rintro e w1 ⟨a1, c1, rfl, h1, hb1⟩
  replace HA := hid (HA.out.on hb1)
  replace EL := hid (EL.out.on hb1)
  replace HM := hid (HM.out.on hb1)
  replace HBel := hid (Below.on HBel.out hb1)
  have HD := hid h1
  clear h1 hb1
  go_wp2_with fail
  refine (CM.out _ _ _ HM.out).mono ?_
  rintro e w2 ⟨a2, c2, rfl, h2, hb2⟩
  replace HA := hid (HA.out.on hb2)
  replace EL := hid (EL.out.on hb2)
  replace HM := hid (HM.out.on hb2)
  replace HD := hid (HD.out.on hb2)
  replace HBel := hid (Below.on HBel.out hb2)
  have HE := hid h2
  clear h2 hb2
  go_wp2_with fail
  refine (same_reg HD.out HE.out rfl).mono ?_
  rintro e w3 ⟨rfl, hb3⟩
  replace HA := hid (HA.out.on hb3)
  replace EL := hid (EL.out.on hb3)
  replace HM := hid (HM.out.on hb3)
  replace HD := hid (HD.out.on hb3)
  replace HE := hid (HE.out.on hb3)
  replace HBel := hid (Below.on HBel.out hb3)
  clear hb3
  clear HE
  obtain ⟨_, d0, d1, d2, d3⟩ := EL.out
  go_wp2_with fail
  refine (CA.out _ _ _ HD.out).mono ?_
  rintro e w4 ⟨a4, c4, rfl, h4, hb4⟩
  replace HA := hid (HA.out.on hb4)
  replace HM := hid (HM.out.on hb4)
  replace HD := hid (HD.out.on hb4)
  replace HBel := hid (Below.on HBel.out hb4)
  have HF := hid h4
  clear h4 hb4
  go_wp2_with fail
  refine (same_reg HF.out HD.out rfl).mono ?_
  rintro e w5 ⟨rfl, hb5⟩
  replace HA := hid (HA.out.on hb5)
  replace HM := hid (HM.out.on hb5)
  replace HD := hid (HD.out.on hb5)
  replace HF := hid (HF.out.on hb5)
  replace HBel := hid (Below.on HBel.out hb5)
  clear hb5
  clear HF
  go_wp2_with fail
  refine (CF.out _ _ _ HD.out).mono ?_
  rintro e w6 ⟨a6, c6, rfl, h6, hb6⟩
  replace HA := hid (HA.out.on hb6)
  replace HM := hid (HM.out.on hb6)
  replace HD := hid (HD.out.on hb6)
  replace HBel := hid (Below.on HBel.out hb6)
  have HG := hid h6
  clear h6 hb6
  go_wp2_with fail
  refine (same_reg HG.out HD.out rfl).mono ?_
  rintro e w7 ⟨rfl, hb7⟩
  replace HA := hid (HA.out.on hb7)
  replace HM := hid (HM.out.on hb7)
  replace HD := hid (HD.out.on hb7)
  replace HG := hid (HG.out.on hb7)
  replace HBel := hid (Below.on HBel.out hb7)
  clear hb7
  clear HG
  go_wp2_with fail
  refine (dawake_any _).mono ?_
  rintro e w8 ⟨rfl, hb8⟩
  replace HA := hid (HA.out.on hb8)
  replace HM := hid (HM.out.on hb8)
  replace HD := hid (HD.out.on hb8)
  replace HBel := hid (Below.on HBel.out hb8)
  clear hb8
  go_wp2
  go_ret
  exact ⟨rfl, HBel.out⟩

theorem walk (a0 : Option Addr) (n0 c0 : Nat) (l0 : List (List Int)) (x : Int) (w : World) (r0 : RdN 4 w a0 n0 c0 l0) (hx : (Lit.int .i64 x).wf = true) :
    Calls Try.prog 6 #[.slice a0 n0 c0, .int .i64 x] w fun e w' => e = .returned (.bool true) ∧ Below w.heap.size w w' := by
  have g0 := rdc_of_rdn r0
  obtain ⟨A, hA⟩ : ∃ A, A = (List.range n0).map (rcOf l0) := ⟨_, rfl⟩
  rw [← hA] at g0
  obtain rfl : A.length = n0 := g0.len
  exact core a0 c0 A x (range64 hx) w g0
end Go.Proofs.Ytklghdagehbfeaa.damageOrders
