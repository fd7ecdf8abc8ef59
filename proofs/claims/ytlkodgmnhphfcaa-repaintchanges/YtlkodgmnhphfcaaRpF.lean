/- Repaint: the contracts of the program's seen, damaged, Changed. Laid by repaint/lay.sh. -/
import Derived.Test.YtlkodgmnhphfcaaRpB
import Derived.Test.YtlkodgmnhphfcaaRpC
import Derived.Test.YtlkodgmnhphfcaaRpD
import Derived.Test.YtlkodgmnhphfcaaLibN
import Derived.Test.YtlkodgmnhphfcaaDmgB
namespace Go.Proofs.Ytlkodgmnhphfcaa
open Go Go.RowKit

theorem Bx.kp {u v : World} {p : Nat} {a : Rc} (h : Bx u p a) {X : List Nat} (hb : Kp X u v) (hX : p ∉ X) : Bx v p a := ⟨hb.var h.obj hX⟩
theorem bnd_okq (r : Rc) : (bnd r).Ok := by
  rcases bnd_cases r with h | h
  · rw [bnd] at h ⊢
    by_cases he : emp r = true
    · rw [cut_emp1 he]; exact rz_ok
    · rw [Bool.not_eq_true] at he
      rw [cut_full he (by decide)] at h ⊢
      unfold oft at h ⊢
      split at h
      · rename_i hc
        rw [if_pos hc]; exact rz_ok
      · rename_i hc
        simp only [emp, Bool.or_eq_true, decide_eq_true_eq] at h
        omega
  · exact h.ok
/-- Cut, and moved: numbers that are not great. -/
theorem qcut_small (y : List Int) (r : Rc) : (cut (bnd r) (bnd ⟨0, 0, nm5 4 y, nm5 5 y⟩)).Ok ∧ (emp (cut (bnd r) (bnd ⟨0, 0, nm5 4 y, nm5 5 y⟩)) = false → Ck (cut (bnd r) (bnd ⟨0, 0, nm5 4 y, nm5 5 y⟩))) := by
  have key : ∀ a b : Rc, (emp a = true ∨ Ck a) → (emp b = true ∨ Ck b) → (cut a b).Ok ∧ (emp (cut a b) = false → Ck (cut a b)) := fun a b ha hb => by
    rcases ha with ha | ha
    · rw [cut_emp1 ha]; exact ⟨rz_ok, fun h => by cases h⟩
    · rcases hb with hb | hb
      · rw [cut_emp2 _ hb]; exact ⟨rz_ok, fun h => by cases h⟩
      · refine ⟨?_, cut_ck ha hb⟩
        rcases cut_two ha hb with h | ⟨h, h1, h2⟩
        · rw [h]; exact rz_ok
        · exact (cut_ck ha hb (by rw [h]; simp only [emp, Bool.or_eq_false_iff, decide_eq_false_iff_not]; omega)).ok
  exact key _ _ (bnd_cases r) (bnd_cases _)
theorem map_snoc {α β : Type} {f : α → β} {l : List α} {j : Nat} {x : α} (h : l[j]? = some x) : (l.take (j + 1)).map f = (l.take j).map f ++ [f x] := by
  rw [List.take_add_one, h, List.map_append]
  rfl
theorem fmap_snoc {α β : Type} {f : α → List β} {l : List α} {j : Nat} {x : α} (h : l[j]? = some x) : (l.take (j + 1)).flatMap f = (l.take j).flatMap f ++ f x := by
  rw [List.take_add_one, h, List.flatMap_append]
  simp

set_option maxRecDepth 100000 in
set_option maxHeartbeats 4000000 in
theorem qseen_any (z0 z1 z2 z3 z4 z5 : Int) (k : Ck (vrc [z0, z1, z2, z3, z4, z5])) (a : Option Addr) (n c : Nat) (l : List Rc) (w : World) (h : RdC w a n c l) (hn : n ≤ 1000000) :
    Calls Try.prog 27 #[.agg #[.int .i64 z0, .int .i64 z1, .int .i64 z2, .int .i64 z3, .int .i64 z4, .int .i64 z5], .slice a n c] w (Ret w (l.map (spt [z0, z1, z2, z3, z4, z5]))) := by
  obtain ⟨i0, hi, hz0, hz1, hz2⟩ := info3 infoC
  have HR := hid h
  have HL := hid h.len
  have hs := h.small
  have HK := hid k
  obtain ⟨y, hy⟩ : ∃ y, [z0, z1, z2, z3, z4, z5] = y := ⟨_, rfl⟩
  have e2 : nm5 2 y = z2 := by rw [← hy]; rfl
  have e3 : nm5 3 y = z3 := by rw [← hy]; rfl
  have e4 : nm5 4 y = z4 := by rw [← hy]; rfl
  have e5 : nm5 5 y = z5 := by rw [← hy]; rfl
  rw [hy] at HK ⊢
  obtain ⟨q, hq⟩ : ∃ q, bnd ⟨0, 0, z4, z5⟩ = q := ⟨_, rfl⟩
  have ok0 : (Rc.mk 0 0 z4 z5).Ok := by
    obtain ⟨k1, k2, k3, k4, k5, k6⟩ := k
    simp only [vrc, nm5, List.getD_eq_getElem?_getD, List.getElem?_cons_succ, List.getElem?_cons_zero, Option.getD_some] at k1 k2 k3 k4 k5 k6
    exact ⟨by dsimp only; omega, by dsimp only; omega, by dsimp only; omega, by dsimp only; omega⟩
  have CO := hid (fun u => bound_any ⟨0, 0, z4, z5⟩ ok0 u)
  rw [hq] at CO
  have HSP : Hid (∀ r : Rc, r.Ok → ∃ B C : Rc, (∀ u, Calls Try.prog 40 #[.agg #[.int .i64 r.x, .int .i64 r.y, .int .i64 r.w, .int .i64 r.h]] u fun e w' => e = .returned (.agg #[.int .i64 B.x, .int .i64 B.y, .int .i64 B.w, .int .i64 B.h]) ∧ Below u.heap.size u w')
      ∧ (∀ u, Calls Try.prog 42 #[.agg #[.int .i64 B.x, .int .i64 B.y, .int .i64 B.w, .int .i64 B.h], .agg #[.int .i64 q.x, .int .i64 q.y, .int .i64 q.w, .int .i64 q.h]] u fun e w' => e = .returned (.agg #[.int .i64 C.x, .int .i64 C.y, .int .i64 C.w, .int .i64 C.h]) ∧ Below u.heap.size u w')
      ∧ ∀ u, Calls Try.prog 41 #[.agg #[.int .i64 C.x, .int .i64 C.y, .int .i64 C.w, .int .i64 C.h], .int .i64 z2, .int .i64 z3] u fun e w' => e = .returned (.agg #[.int .i64 (spt y r).x, .int .i64 (spt y r).y, .int .i64 (spt y r).w, .int .i64 (spt y r).h]) ∧ Below u.heap.size u w') := fun r ok => by
    have hs1 := qcut_small y r
    rw [e4, e5, hq] at hs1
    have hs2 := sh_spt HK.out r
    rw [e2, e3, e4, e5, hq] at hs2
    rw [← hs2]
    refine ⟨bnd r, cut (bnd r) q, fun u => bound_any r ok u, fun u => cut_any _ _ (bnd_okq r) (by rw [← hq]; exact bnd_okq _) u, fun u => shift_any _ z2 z3 (fun he => ?_) (fun he => ?_) u⟩
    · obtain ⟨k1, k2, k3, k4, k5, k6⟩ := hs1.2 he
      have K := HK.out
      have g1 := K.x
      have g2 := K.r
      have g3 := K.w
      simp only [vrc] at g1 g2 g3
      omega
    · obtain ⟨k1, k2, k3, k4, k5, k6⟩ := hs1.2 he
      have K := HK.out
      have g1 := K.y
      have g2 := K.b
      have g3 := K.h
      simp only [vrc] at g1 g2 g3
      omega
  have HOK : Hid (∀ j : Nat, ∀ r ∈ (l.take j).map (spt y), r.Ok) := fun j r hr => by
    obtain ⟨x, _, rfl⟩ := List.mem_map.1 hr
    exact spt_ok y x
  have HV := hid (bk_new w #[.int .i64 z0, .int .i64 z1, .int .i64 z2, .int .i64 z3, .int .i64 z4, .int .i64 z5] 40)
  have HA := hid (bel_new w (.cells #[.int .i64 z0, .int .i64 z1, .int .i64 z2, .int .i64 z3, .int .i64 z4, .int .i64 z5] 40))
  clear h k ok0 hq hy e2 e3 e4 e5
  go_enter Try.func27, Try.ntmps27
  go_wp2_with fail
  refine (CO.out _).mono ?_
  rintro e w1 ⟨rfl, hb1⟩
  have hX := bx_new w1 q
  have HBW := hid (Below.on (Below.on HA.out hb1) (below_new w1 (ob q)))
  have HV1 := hid ((HV.out.on hb1).on (below_new w1 (ob q)))
  have HX1 := hid hX
  have hl1 := hX.lt
  have hl2 : w.heap.size < w1.heap.size := (HV.out.on hb1).lt
  clear hb1 hX CO HA HV
  go_wp2
  rw [ob] at HBW HV1
  generalize w1.alloc (.cells #[.int .i64 q.x, .int .i64 q.y, .int .i64 q.w, .int .i64 q.h] 36) = W0 at HBW HV1 HX1 hl1 ⊢
  go_loopw [6, 17] (fun v i wr => ∃ j : Nat, i = .int .i64 j ∧ j ≤ n ∧ OwC W0 wr v ((l.take j).map (spt y))) (fun _ i _ => n - (numOf i).toNat)
  case atStart => exact ⟨0, rfl, by omega, OwC.nil W0⟩
  case round =>
    obtain ⟨j, rfl, hj, hO⟩ := hrel
    have HO := hid hO
    have HT : Hid (((l.take j).map (spt y)).length = j) := by rw [Hid, List.length_map, List.length_take, HL.out]; omega
    obtain ⟨av, cv, rfl, _⟩ := rdc_of_owns hO.own (HOK.out j)
    rw [HT.out] at HO ⊢
    clear hO
    by_cases hgo : j < n
    · have e1 : decide ((j : Int) < n) = true := decide_eq_true (by omega)
      have e2 : (j : Int) < n := by omega
      obtain ⟨b, off, r, rfl, hb, hr, ok, he⟩ := ((HR.out.on HBW.out).on HO.out.bel).el hgo
      obtain ⟨_, d0, d1, d2, d3⟩ := he
      obtain ⟨B, C, CB, CC, CS⟩ := HSP.out r ok
      have HS := hid (map_snoc (f := spt y) hr)
      generalize spt y r = R at CS HS
      have HCB := hid CB
      have HCC := hid CC
      have HCS := hid CS
      clear hr ok CB CC CS hb
      go_upto_region 6 with fail
      have hbA := below_new wr (ob r)
      rw [ob] at hbA
      have HO2 := hid (HO.out.on hbA)
      have HS0 : Hid (Bk (wr.alloc (.cells #[.int .i64 r.x, .int .i64 r.y, .int .i64 r.w, .int .i64 r.h] 36)) w.heap.size 40 #[.int .i64 z0, .int .i64 z1, .int .i64 z2, .int .i64 z3, .int .i64 z4, .int .i64 z5] ∧ Bx (wr.alloc (.cells #[.int .i64 r.x, .int .i64 r.y, .int .i64 r.w, .int .i64 r.h] 36)) w1.heap.size q ∧ Bx (wr.alloc (.cells #[.int .i64 r.x, .int .i64 r.y, .int .i64 r.w, .int .i64 r.h] 36)) wr.heap.size r) := ⟨(HV1.out.on HO.out.bel).on hbA, (HX1.out.on HO.out.bel).on hbA, bx_new wr r⟩
      have hsz := HO.out.bel.size
      have hown : ∀ g, (Value.slice av j cv).ownBlock = some g → W0.heap.size ≤ g ∧ g < wr.heap.size := fun g hg => HO.out.own.lt g hg
      clear HO d0 d1 d2 d3 hbA
      generalize wr.alloc (.cells #[.int .i64 r.x, .int .i64 r.y, .int .i64 r.w, .int .i64 r.h] 36) = U at HO2 HS0 ⊢
      refine wp_region_held_drew (S := fun x => Bk x w.heap.size 40 #[.int .i64 z0, .int .i64 z1, .int .i64 z2, .int .i64 z3, .int .i64 z4, .int .i64 z5] ∧ Bx x w1.heap.size q ∧ Bx x wr.heap.size r) (by kernel_rfl) ?hh (fun hHeld => ?_)
      case hh => exact (⟨HS0.out.1.on (Below.refl _ _).drew, HS0.out.2.1.on (Below.refl _ _).drew, HS0.out.2.2.on (Below.refl _ _).drew⟩)
      refine wpAnyH_take (i := 0) (v := ?_) rfl (by kernel_rfl) (by kernel_rfl) (by kernel_rfl) (fun _ _ _ h => h) (Or.inl ⟨by kernel_rfl, ?hy0⟩) (by assumption) ?_
      case hy0 => (intro w hSw; (try dsimp only at hSw); have t2 := hSw.1.cell 2; have t3 := hSw.1.cell 3; obtain ⟨s0, s1, s2, s3⟩ := hSw.2.1.all; obtain ⟨r0, r1, r2, r3⟩ := hSw.2.2.all; go_simp; try with_reducible rfl)
      try simp only [Act.put, List.getElem_toArray, List.getElem_cons_zero, List.setIfInBounds_toArray, List.set_cons_zero, List.set_cons_succ]
      refine wpAnyH_take (i := 1) (v := ?_) rfl (by kernel_rfl) (by kernel_rfl) (by kernel_rfl) (fun _ _ _ h => h) (Or.inl ⟨by kernel_rfl, ?hy1⟩) (by assumption) ?_
      case hy1 => (intro w hSw; (try dsimp only at hSw); have t2 := hSw.1.cell 2; have t3 := hSw.1.cell 3; obtain ⟨s0, s1, s2, s3⟩ := hSw.2.1.all; obtain ⟨r0, r1, r2, r3⟩ := hSw.2.2.all; go_simp; try with_reducible rfl)
      try simp only [Act.put, List.getElem_toArray, List.getElem_cons_zero, List.getElem_cons_succ, List.setIfInBounds_toArray, List.set_cons_zero, List.set_cons_succ]
      refine wpAnyH_take (i := 3) (v := ?_) rfl (by kernel_rfl) (by kernel_rfl) (by kernel_rfl) (fun _ _ _ h => h) (Or.inl ⟨by kernel_rfl, ?hy3⟩) (by assumption) ?_
      case hy3 => (intro w hSw; (try dsimp only at hSw); have t2 := hSw.1.cell 2; have t3 := hSw.1.cell 3; obtain ⟨s0, s1, s2, s3⟩ := hSw.2.1.all; obtain ⟨r0, r1, r2, r3⟩ := hSw.2.2.all; go_simp; try with_reducible rfl)
      try simp only [Act.put, List.getElem_toArray, List.getElem_cons_zero, List.getElem_cons_succ, List.setIfInBounds_toArray, List.set_cons_zero, List.set_cons_succ]
      refine wpAnyH_take (i := 5) (v := ?_) rfl (by kernel_rfl) (by kernel_rfl) (by kernel_rfl) (fun _ _ _ h => h) (Or.inl ⟨by kernel_rfl, ?hy5⟩) (by assumption) ?_
      case hy5 => (intro w hSw; (try dsimp only at hSw); have t2 := hSw.1.cell 2; have t3 := hSw.1.cell 3; obtain ⟨s0, s1, s2, s3⟩ := hSw.2.1.all; obtain ⟨r0, r1, r2, r3⟩ := hSw.2.2.all; go_simp; try with_reducible rfl)
      try simp only [Act.put, List.getElem_toArray, List.getElem_cons_zero, List.getElem_cons_succ, List.setIfInBounds_toArray, List.set_cons_zero, List.set_cons_succ]
      refine wpAnyH_take (i := 6) (v := ?_) rfl (by kernel_rfl) (by kernel_rfl) (by kernel_rfl) (fun _ _ _ h => h) (Or.inl ⟨by kernel_rfl, ?hy6⟩) (by assumption) ?_
      case hy6 => (intro w hSw; (try dsimp only at hSw); have t2 := hSw.1.cell 2; have t3 := hSw.1.cell 3; obtain ⟨s0, s1, s2, s3⟩ := hSw.2.1.all; obtain ⟨r0, r1, r2, r3⟩ := hSw.2.2.all; go_simp; try with_reducible rfl)
      try simp only [Act.put, List.getElem_toArray, List.getElem_cons_zero, List.getElem_cons_succ, List.setIfInBounds_toArray, List.set_cons_zero, List.set_cons_succ]
      refine wpAnyH_take (i := 7) (v := ?_) rfl (by kernel_rfl) (by kernel_rfl) (by kernel_rfl) (fun _ _ _ h => h) (Or.inl ⟨by kernel_rfl, ?hy7⟩) (by assumption) ?_
      case hy7 => (intro w hSw; (try dsimp only at hSw); have t2 := hSw.1.cell 2; have t3 := hSw.1.cell 3; obtain ⟨s0, s1, s2, s3⟩ := hSw.2.1.all; obtain ⟨r0, r1, r2, r3⟩ := hSw.2.2.all; go_simp; try with_reducible rfl)
      try simp only [Act.put, List.getElem_toArray, List.getElem_cons_zero, List.getElem_cons_succ, List.setIfInBounds_toArray, List.set_cons_zero, List.set_cons_succ]
      refine wpAnyH_take (i := 8) (v := ?_) rfl (by kernel_rfl) (by kernel_rfl) (by kernel_rfl) (fun _ _ _ h => h) (Or.inl ⟨by kernel_rfl, ?hy8⟩) (by assumption) ?_
      case hy8 => (intro w hSw; (try dsimp only at hSw); have t2 := hSw.1.cell 2; have t3 := hSw.1.cell 3; obtain ⟨s0, s1, s2, s3⟩ := hSw.2.1.all; obtain ⟨r0, r1, r2, r3⟩ := hSw.2.2.all; go_simp; try with_reducible rfl)
      try simp only [Act.put, List.getElem_toArray, List.getElem_cons_zero, List.getElem_cons_succ, List.setIfInBounds_toArray, List.set_cons_zero, List.set_cons_succ]
      refine wpAnyH_ready (rs := [2]) (by kernel_rfl) (by simp) ?_
      refine AllReadyH.cons rfl (fun K hK => ?_) AllReadyH.nil
      go_simp
      go_wp2_with fail
      refine (HCB.out _).mono ?_
      rintro e u1 ⟨rfl, hb1⟩
      have HO3 := hid ((HO2.out.on (Below.refl _ _).drew).on hb1)
      have hH := (⟨hHeld.1.on hb1, hHeld.2.1.on hb1, hHeld.2.2.on hb1⟩ : Bk u1 w.heap.size 40 #[.int .i64 z0, .int .i64 z1, .int .i64 z2, .int .i64 z3, .int .i64 z4, .int .i64 z5] ∧ Bx u1 w1.heap.size q ∧ Bx u1 wr.heap.size r)
      refine hK.out _ _ hH (fun _ => ?_)
      clear hK K hHeld hb1 HO2 HS0
      have hHeld := hH
      clear hH
      refine wpAnyH_ready (rs := [4]) (by kernel_rfl) (by simp) ?_
      refine AllReadyH.cons rfl (fun K hK => ?_) AllReadyH.nil
      go_simp
      go_wp2_with fail
      refine (HCC.out _).mono ?_
      rintro e u2 ⟨rfl, hb2⟩
      replace HO3 := hid (HO3.out.on hb2)
      have hH := (⟨hHeld.1.on hb2, hHeld.2.1.on hb2, hHeld.2.2.on hb2⟩ : Bk u2 w.heap.size 40 #[.int .i64 z0, .int .i64 z1, .int .i64 z2, .int .i64 z3, .int .i64 z4, .int .i64 z5] ∧ Bx u2 w1.heap.size q ∧ Bx u2 wr.heap.size r)
      refine hK.out _ _ hH (fun _ => ?_)
      clear hK K hHeld hb2
      have hHeld := hH
      clear hH
      refine wpAnyH_ready (rs := [9]) (by kernel_rfl) (by simp) ?_
      refine AllReadyH.cons rfl (fun K hK => ?_) AllReadyH.nil
      go_simp
      go_wp2_with fail
      refine (HCS.out _).mono ?_
      rintro e u3 ⟨rfl, hb3⟩
      replace HO3 := hid (HO3.out.on hb3)
      have hH := (⟨hHeld.1.on hb3, hHeld.2.1.on hb3, hHeld.2.2.on hb3⟩ : Bk u3 w.heap.size 40 #[.int .i64 z0, .int .i64 z1, .int .i64 z2, .int .i64 z3, .int .i64 z4, .int .i64 z5] ∧ Bx u3 w1.heap.size q ∧ Bx u3 wr.heap.size r)
      refine hK.out _ _ hH (fun _ => ?_)
      clear hK K hHeld hb3
      have hHeld := hH
      clear hH
      refine wpAnyH_ready (rs := [10]) (by kernel_rfl) (by simp) ?_
      refine AllReadyH.cons rfl (fun K hK => ?_) AllReadyH.nil
      go_simp
      have hb4 := below_new u3 (ob R)
      rw [ob] at hb4
      have HSR := hid (srcR u3 R)
      replace HO3 := hid (HO3.out.on hb4)
      have hH := (⟨hHeld.1.on hb4, hHeld.2.1.on hb4, hHeld.2.2.on hb4⟩ : Bk (u3.alloc (.cells #[.int .i64 R.x, .int .i64 R.y, .int .i64 R.w, .int .i64 R.h] 36)) w.heap.size 40 #[.int .i64 z0, .int .i64 z1, .int .i64 z2, .int .i64 z3, .int .i64 z4, .int .i64 z5] ∧ Bx (u3.alloc (.cells #[.int .i64 R.x, .int .i64 R.y, .int .i64 R.w, .int .i64 R.h] 36)) w1.heap.size q ∧ Bx (u3.alloc (.cells #[.int .i64 R.x, .int .i64 R.y, .int .i64 R.w, .int .i64 R.h] 36)) wr.heap.size r)
      refine hK.out _ _ hH (fun _ => ?_)
      clear hK K hHeld hb4
      have hHeld := hH
      clear hH
      refine wpAnyH_ready (rs := [11]) (by kernel_rfl) (by simp) ?_
      refine AllReadyH.cons rfl (fun K hK => ?_) AllReadyH.nil
      refine step_append_own_src rfl (.tmp 21) (.tmp 31) 30 30 rfl W0.heap.size 36 i0 (.agg #[.int .i64 0, .int .i64 0, .int .i64 0, .int .i64 0]) 4 32 Try.underlying30 hi hz0 hz1 hz2 rfl _ _ _ (by simp [Act.eval]) HO3.out.own _ 1 _ (by simp [Act.eval]) HSR.out (by rw [HT.out]; simp only [maxLen]; omega) (fits32 (by rw [HT.out]; omega)) HO3.out.size ?_
      intro v5 u5 o5 g5
      have HO5 := hid (HO3.out.grown (m := [R]) o5 g5)
      have hk5 := kp_of_grown g5
      have hnot : ∀ p, (p < W0.heap.size ∨ wr.heap.size ≤ p) → p ∉ (Value.slice av j cv).ownBlock.toList := fun p hp hm => by {have h2 := hown p (by simpa using hm); omega}
      have hH := (⟨hHeld.1.kp hk5 (hnot _ (.inl (by omega))), hHeld.2.1.kp hk5 (hnot _ (.inl hl1)), hHeld.2.2.kp hk5 (hnot _ (.inr (Nat.le_refl _)))⟩ : Bk u5 w.heap.size 40 #[.int .i64 z0, .int .i64 z1, .int .i64 z2, .int .i64 z3, .int .i64 z4, .int .i64 z5] ∧ Bx u5 w1.heap.size q ∧ Bx u5 wr.heap.size r)
      refine hK.out _ _ hH (fun _ => ?_)
      clear hK K hHeld o5 g5 hk5
      have hHeld := hH
      clear hH HO3 HSR
      refine wpAnyH_take (i := 12) (v := ?_) rfl (by kernel_rfl) (by kernel_rfl) (by kernel_rfl) (fun _ _ _ h => h) (Or.inl ⟨by kernel_rfl, ?hy12⟩) (by assumption) ?_
      case hy12 => (intro w hSw; (try dsimp only at hSw); have t2 := hSw.1.cell 2; have t3 := hSw.1.cell 3; obtain ⟨s0, s1, s2, s3⟩ := hSw.2.1.all; obtain ⟨r0, r1, r2, r3⟩ := hSw.2.2.all; go_simp; try with_reducible rfl)
      try simp only [Act.put, List.getElem_toArray, List.getElem_cons_zero, List.getElem_cons_succ, List.setIfInBounds_toArray, List.set_cons_zero, List.set_cons_succ]
      refine wpAnyH_done (by kernel_rfl) ?_ _
      clear hHeld
      go_wp2
      go_roundw
      case rel => exact ⟨j + 1, by go_num, by omega, by rw [HS.out]; exact HO5.out⟩
      case measure => simp [numOf]; omega
    · have e1 : decide ((j : Int) < n) = false := decide_eq_false (by omega)
      have HE : Hid (l.take j = l) := List.take_of_length_le (by rw [HL.out]; omega)
      have hF := (HO.out.base HBW.out).ret (HOK.out j)
      rw [HE.out] at hF
      have HF := hid hF
      clear hF
      go_wp2
      go_ret
      exact HF.out
end Go.Proofs.Ytlkodgmnhphfcaa
