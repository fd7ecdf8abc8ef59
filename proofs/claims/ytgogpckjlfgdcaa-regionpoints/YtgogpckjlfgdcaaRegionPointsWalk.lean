/- RegionPoints: for every two lists of rectangles and two numbers the call returns true; nothing that was there has turned. -/
import Derived.Test.YtgogpckjlfgdcaaRgfH
namespace Go.Proofs.Ytgogpckjlfgdcaa.regionPoints
open Go Go.RowKit

/-- Whether a point of the first region is taken. -/
def Tst (A : List Rc) (w : World) (v : Value) (wx : World) : Prop := ∃ q : Bool, v = .bool q ∧ (q = true → 0 < A.length) ∧ wx = w
/-- The point. -/
def Pnt (w : World) (v u : Value) (wx : World) : Prop := ∃ p q : Int, v = .int .i64 p ∧ u = .int .i64 q ∧ (-33554432 ≤ p ∧ p ≤ 67108864) ∧ (-33554432 ≤ q ∧ q ≤ 67108864) ∧ Below w.heap.size w wx

set_option maxRecDepth 100000 in
set_option maxHeartbeats 1000000 in
theorem core (a0 : Option Addr) (n0 c0 : Nat) (l0 : List (List Int)) (a1 : Option Addr) (n1 c1 : Nat) (l1 : List (List Int)) (x y : Int) (w : World) (r0 : RdN 4 w a0 n0 c0 l0) (r1 : RdN 4 w a1 n1 c1 l1) (hx : -9223372036854775808 ≤ x ∧ x ≤ 9223372036854775807) (hy : -9223372036854775808 ≤ y ∧ y ≤ 9223372036854775807) :
    Calls Try.prog 5 #[.slice a0 n0 c0, .slice a1 n1 c1, .int .i64 x, .int .i64 y] w fun e w' => e = .returned (.bool true) ∧ Below w.heap.size w w' := by
  have HP0 := hid (rdc_of_rdn r0)
  have HP1 := hid (rdc_of_rdn r1)
  have HBel := hid (Below.refl w.heap.size w)
  clear r0 r1
  go_enter Try.func5, Try.ntmps5
  go_wp2_with fail
  refine (made_reg HP0.out).mono ?_
  rintro e w1 ⟨A, KA, a1, c1, rfl, h1, hb1⟩
  replace HP0 := hid (HP0.out.on hb1)
  replace HP1 := hid (HP1.out.on hb1)
  replace HBel := hid (Below.on HBel.out hb1)
  have HA := hid h1
  clear h1 hb1
  replace KA := hid KA
  go_wp2_with fail
  refine (made_reg HP1.out).mono ?_
  rintro e w2 ⟨B, KB, a2, c2, rfl, h2, hb2⟩
  replace HP0 := hid (HP0.out.on hb2)
  replace HP1 := hid (HP1.out.on hb2)
  replace HA := hid (HA.out.on hb2)
  replace HBel := hid (Below.on HBel.out hb2)
  have HB := hid h2
  clear h2 hb2
  replace KB := hid KB
  clear HP0 HP1
  have hAl := KA.out.len
  have q1 := plc_lt x 33554432 (by decide)
  have q2 := plc_lt y 33554432 (by decide)
  have CP := hid (fun u => place_any x 33554432 hx (by decide) (by decide) u)
  have CQ := hid (fun u => place_any y 33554432 hy (by decide) (by decide) u)
  go_wp2_with fail
  refine (CP.out _).mono ?_
  rintro e w3 ⟨rfl, rfl⟩
  go_wp2_with fail
  refine (CQ.out _).mono ?_
  rintro e w3 ⟨rfl, rfl⟩
  clear CP CQ
  generalize plc x 33554432 = P1 at q1 ⊢
  generalize plc y 33554432 = Q1 at q2 ⊢
  have f1 : IntKind.i64.wrap ((P1 : Int) - 16777216) = (P1 : Int) - 16777216 := by rw [IntKind.wrap_i64]; omega
  have f2 : IntKind.i64.wrap ((Q1 : Int) - 16777216) = (Q1 : Int) - 16777216 := by rw [IntKind.wrap_i64]; omega
  go_upto_region 3 with fail
  have hs := HA.out.small
  go_cut [36] (fun v wx => Tst A w3 v wx)
  case first =>
    by_cases h0 : 0 < A.length
    · have e1 : decide (0 < (A.length : Int)) = true := decide_eq_true (by omega)
      have e2 : decide (0 < A.length) = true := decide_eq_true h0
      go_wp2_with fail
      go_meet
      exact ⟨_, rfl, fun _ => h0, rfl⟩
    · have e1 : decide (0 < (A.length : Int)) = false := decide_eq_false (by omega)
      have e2 : decide (0 < A.length) = false := decide_eq_false h0
      go_wp2_with fail
      go_meet
      exact ⟨_, rfl, fun h => (by cases h), rfl⟩
  case rest =>
  obtain ⟨q, rfl, hq0, rfl⟩ := hcut
  go_upto_if 36 with fail
  go_cut [11, 12] (fun v u wx => Pnt wc v u wx)
  case first =>
    cases q
    · go_wp2_with fail
      go_meet
      exact ⟨_, _, rfl, rfl, by omega, by omega, Below.refl _ _⟩
    · have hn0 := hq0 rfl
      have q3 := plc_lt y A.length hn0
      have CY := hid (fun u => place_any y A.length hy hn0 (by omega) u)
      generalize plc y A.length = J at q3 CY
      obtain ⟨b, off, r, hbo, _, hr, _, he⟩ := HA.out.el q3
      subst hbo
      obtain ⟨_, d0, d1, d2, d3⟩ := he
      obtain ⟨k1, k2, k3, k4, k5, k6⟩ := KA.out.reg.ck r (List.mem_of_getElem? hr)
      obtain ⟨WW, hWW⟩ : ∃ WW : Nat, r.w = (WW : Int) := ⟨r.w.toNat, by omega⟩
      obtain ⟨HH, hHH⟩ : ∃ HH : Nat, r.h = (HH : Int) := ⟨r.h.toNat, by omega⟩
      have q4 := plc_lt x WW (by omega)
      have q5 := plc_lt y HH (by omega)
      have C1 := hid (fun u => place_any x WW hx (by omega) (by omega) u)
      have C2 := hid (fun u => place_any y HH hy (by omega) (by omega) u)
      rw [← hWW] at C1
      rw [← hHH] at C2
      generalize plc x WW = I1 at q4 C1
      generalize plc y HH = J1 at q5 C2
      have e3 : (J : Int) < A.length := by omega
      have g1 : IntKind.i64.wrap (r.x + (I1 : Int)) = r.x + (I1 : Int) := by rw [IntKind.wrap_i64]; omega
      have g2 : IntKind.i64.wrap (r.y + (J1 : Int)) = r.y + (J1 : Int) := by rw [IntKind.wrap_i64]; omega
      have HBX := hid (bx_new wc r)
      have HNB := hid (below_new wc (ob r))
      rw [ob] at HNB
      have z1 : r.x + (I1 : Int) ≤ 67108864 ∧ -33554432 ≤ r.x + (I1 : Int) := by omega
      have z2 : r.y + (J1 : Int) ≤ 67108864 ∧ -33554432 ≤ r.y + (J1 : Int) := by omega
      clear hWW hHH hr q4 q5 k1 k2 k3 k4 k5 k6
      go_upto_region 5 with (refine (CY.out _).mono ?_; rintro e w4 ⟨rfl, rfl⟩)
      generalize hu : w4.alloc (.cells #[.int .i64 r.x, .int .i64 r.y, .int .i64 r.w, .int .i64 r.h] 24) = u0 at HBX HNB ⊢
      refine wp_region_held_drew (S := fun x => Below u0.heap.size u0 x) (by kernel_rfl) (Below.refl _ _).drew (fun hHeld => ?_)
      have hHeld : Below u0.heap.size u0 u0.drew := hHeld
      refine wpAnyH_take (i := 0) (v := ?_) rfl (by kernel_rfl) (by kernel_rfl) (by kernel_rfl) (fun _ _ _ h => h) (Or.inl ⟨by kernel_rfl, ?hy0⟩) (by assumption) ?_
      case hy0 => (intro w hSw; (try dsimp only at hSw); obtain ⟨t00, t01, t02, t03⟩ := (HBX.out.on hSw).all; go_simp; try with_reducible rfl)
      try simp only [Act.put, List.getElem_toArray, List.getElem_cons_zero, List.setIfInBounds_toArray, List.set_cons_zero, List.set_cons_succ]
      refine wpAnyH_take (i := 1) (v := ?_) rfl (by kernel_rfl) (by kernel_rfl) (by kernel_rfl) (fun _ _ _ h => h) (Or.inl ⟨by kernel_rfl, ?hy1⟩) (by assumption) ?_
      case hy1 => (intro w hSw; (try dsimp only at hSw); obtain ⟨t00, t01, t02, t03⟩ := (HBX.out.on hSw).all; go_simp; try with_reducible rfl)
      try simp only [Act.put, List.getElem_toArray, List.getElem_cons_zero, List.getElem_cons_succ, List.setIfInBounds_toArray, List.set_cons_zero, List.set_cons_succ]
      refine wpAnyH_take (i := 2) (v := ?_) rfl (by kernel_rfl) (by kernel_rfl) (by kernel_rfl) (fun _ _ _ h => h) (Or.inl ⟨by kernel_rfl, ?hy2⟩) (by assumption) ?_
      case hy2 => (intro w hSw; (try dsimp only at hSw); obtain ⟨t00, t01, t02, t03⟩ := (HBX.out.on hSw).all; go_simp; try with_reducible rfl)
      try simp only [Act.put, List.getElem_toArray, List.getElem_cons_zero, List.getElem_cons_succ, List.setIfInBounds_toArray, List.set_cons_zero, List.set_cons_succ]
      refine wpAnyH_take (i := 3) (v := ?_) rfl (by kernel_rfl) (by kernel_rfl) (by kernel_rfl) (fun _ _ _ h => h) (Or.inl ⟨by kernel_rfl, ?hy3⟩) (by assumption) ?_
      case hy3 => (intro w hSw; (try dsimp only at hSw); obtain ⟨t00, t01, t02, t03⟩ := (HBX.out.on hSw).all; go_simp; try with_reducible rfl)
      try simp only [Act.put, List.getElem_toArray, List.getElem_cons_zero, List.getElem_cons_succ, List.setIfInBounds_toArray, List.set_cons_zero, List.set_cons_succ]
      refine wpAnyH_take (i := 4) (v := ?_) rfl (by kernel_rfl) (by kernel_rfl) (by kernel_rfl) (fun _ _ _ h => h) (Or.inl ⟨by kernel_rfl, ?hy4⟩) (by assumption) ?_
      case hy4 => (intro w hSw; (try dsimp only at hSw); obtain ⟨t00, t01, t02, t03⟩ := (HBX.out.on hSw).all; go_simp; try with_reducible rfl)
      try simp only [Act.put, List.getElem_toArray, List.getElem_cons_zero, List.getElem_cons_succ, List.setIfInBounds_toArray, List.set_cons_zero, List.set_cons_succ]
      refine wpAnyH_take (i := 7) (v := ?_) rfl (by kernel_rfl) (by kernel_rfl) (by kernel_rfl) (fun _ _ _ h => h) (Or.inl ⟨by kernel_rfl, ?hy7⟩) (by assumption) ?_
      case hy7 => (intro w hSw; (try dsimp only at hSw); obtain ⟨t00, t01, t02, t03⟩ := (HBX.out.on hSw).all; go_simp; try with_reducible rfl)
      try simp only [Act.put, List.getElem_toArray, List.getElem_cons_zero, List.getElem_cons_succ, List.setIfInBounds_toArray, List.set_cons_zero, List.set_cons_succ]
      refine wpAnyH_take (i := 8) (v := ?_) rfl (by kernel_rfl) (by kernel_rfl) (by kernel_rfl) (fun _ _ _ h => h) (Or.inl ⟨by kernel_rfl, ?hy8⟩) (by assumption) ?_
      case hy8 => (intro w hSw; (try dsimp only at hSw); obtain ⟨t00, t01, t02, t03⟩ := (HBX.out.on hSw).all; go_simp; try with_reducible rfl)
      try simp only [Act.put, List.getElem_toArray, List.getElem_cons_zero, List.getElem_cons_succ, List.setIfInBounds_toArray, List.set_cons_zero, List.set_cons_succ]
      refine wpAnyH_take (i := 9) (v := ?_) rfl (by kernel_rfl) (by kernel_rfl) (by kernel_rfl) (fun _ _ _ h => h) (Or.inl ⟨by kernel_rfl, ?hy9⟩) (by assumption) ?_
      case hy9 => (intro w hSw; (try dsimp only at hSw); obtain ⟨t00, t01, t02, t03⟩ := (HBX.out.on hSw).all; go_simp; try with_reducible rfl)
      try simp only [Act.put, List.getElem_toArray, List.getElem_cons_zero, List.getElem_cons_succ, List.setIfInBounds_toArray, List.set_cons_zero, List.set_cons_succ]
      refine wpAnyH_take (i := 10) (v := ?_) rfl (by kernel_rfl) (by kernel_rfl) (by kernel_rfl) (fun _ _ _ h => h) (Or.inl ⟨by kernel_rfl, ?hy10⟩) (by assumption) ?_
      case hy10 => (intro w hSw; (try dsimp only at hSw); obtain ⟨t00, t01, t02, t03⟩ := (HBX.out.on hSw).all; go_simp; try with_reducible rfl)
      try simp only [Act.put, List.getElem_toArray, List.getElem_cons_zero, List.getElem_cons_succ, List.setIfInBounds_toArray, List.set_cons_zero, List.set_cons_succ]
      refine wpAnyH_take (i := 11) (v := ?_) rfl (by kernel_rfl) (by kernel_rfl) (by kernel_rfl) (fun _ _ _ h => h) (Or.inl ⟨by kernel_rfl, ?hy11⟩) (by assumption) ?_
      case hy11 => (intro w hSw; (try dsimp only at hSw); obtain ⟨t00, t01, t02, t03⟩ := (HBX.out.on hSw).all; go_simp; try with_reducible rfl)
      try simp only [Act.put, List.getElem_toArray, List.getElem_cons_zero, List.getElem_cons_succ, List.setIfInBounds_toArray, List.set_cons_zero, List.set_cons_succ]
      refine wpAnyH_ready (rs := [5]) (by kernel_rfl) (by simp) ?_
      refine AllReadyH.cons rfl (fun K hK => ?_) AllReadyH.nil
      go_simp
      go_wp2_with fail
      refine (C1.out _).mono ?_
      rintro e u205 ⟨rfl, rfl⟩
      refine hK.out _ _ hHeld (fun _ => ?_)
      clear hK K
      refine wpAnyH_take (i := 6) (v := ?_) rfl (by kernel_rfl) (by kernel_rfl) (by kernel_rfl) (fun _ _ _ h => h) (Or.inl ⟨by kernel_rfl, ?hy6⟩) (by assumption) ?_
      case hy6 => (intro w hSw; (try dsimp only at hSw); obtain ⟨t00, t01, t02, t03⟩ := (HBX.out.on hSw).all; go_simp; try with_reducible rfl)
      try simp only [Act.put, List.getElem_toArray, List.getElem_cons_zero, List.getElem_cons_succ, List.setIfInBounds_toArray, List.set_cons_zero, List.set_cons_succ]
      refine wpAnyH_ready (rs := [12]) (by kernel_rfl) (by simp) ?_
      refine AllReadyH.cons rfl (fun K hK => ?_) AllReadyH.nil
      go_simp
      go_wp2_with fail
      refine (C2.out _).mono ?_
      rintro e u212 ⟨rfl, rfl⟩
      refine hK.out _ _ hHeld (fun _ => ?_)
      clear hK K
      refine wpAnyH_take (i := 13) (v := ?_) rfl (by kernel_rfl) (by kernel_rfl) (by kernel_rfl) (fun _ _ _ h => h) (Or.inl ⟨by kernel_rfl, ?hy13⟩) (by assumption) ?_
      case hy13 => (intro w hSw; (try dsimp only at hSw); obtain ⟨t00, t01, t02, t03⟩ := (HBX.out.on hSw).all; go_simp; try with_reducible rfl)
      try simp only [Act.put, List.getElem_toArray, List.getElem_cons_zero, List.getElem_cons_succ, List.setIfInBounds_toArray, List.set_cons_zero, List.set_cons_succ]
      refine wpAnyH_take (i := 14) (v := ?_) rfl (by kernel_rfl) (by kernel_rfl) (by kernel_rfl) (fun _ _ _ h => h) (Or.inl ⟨by kernel_rfl, ?hy14⟩) (by assumption) ?_
      case hy14 => (intro w hSw; (try dsimp only at hSw); obtain ⟨t00, t01, t02, t03⟩ := (HBX.out.on hSw).all; go_simp; try with_reducible rfl)
      try simp only [Act.put, List.getElem_toArray, List.getElem_cons_zero, List.getElem_cons_succ, List.setIfInBounds_toArray, List.set_cons_zero, List.set_cons_succ]
      refine wpAnyH_take (i := 15) (v := ?_) rfl (by kernel_rfl) (by kernel_rfl) (by kernel_rfl) (fun _ _ _ h => h) (Or.inl ⟨by kernel_rfl, ?hy15⟩) (by assumption) ?_
      case hy15 => (intro w hSw; (try dsimp only at hSw); obtain ⟨t00, t01, t02, t03⟩ := (HBX.out.on hSw).all; go_simp; try with_reducible rfl)
      try simp only [Act.put, List.getElem_toArray, List.getElem_cons_zero, List.getElem_cons_succ, List.setIfInBounds_toArray, List.set_cons_zero, List.set_cons_succ]
      refine wpAnyH_done (by kernel_rfl) ?_ _
      go_wp2_with fail
      go_meet
      exact ⟨_, _, rfl, rfl, ⟨z1.2, z1.1⟩, ⟨z2.2, z2.1⟩, Below.on HNB.out hHeld⟩
  case rest =>
  obtain ⟨p, q, rfl, rfl, hp, hq, hbc⟩ := hcut
  replace HA := hid (HA.out.on hbc)
  replace HB := hid (HB.out.on hbc)
  replace HBel := hid (Below.on HBel.out hbc)
  clear hbc hq0
  have RA := KA.out.reg
  have RB := KB.out.reg
  have GU := gd_both (f := or) KA.out KB.out rfl
  have GS := gd_both (f := sub) KA.out KB.out rfl
  have GC := gd_both (f := and) KA.out KB.out rfl
  have EU := mkp (f := or) rfl RA RB p q
  have ES := mkp (f := sub) rfl RA RB p q
  have EC := mkp (f := and) rfl RA RB p q
  have hp2 : -9223372036854775808 ≤ p ∧ p ≤ 9223372036854775807 := by omega
  have hq2 : -9223372036854775808 ≤ q ∧ q ≤ 9223372036854775807 := by omega
  have DA := hid (fun u (a : Option Addr) (c : Nat) (h : RdC u a A.length c A) => has_reg h RA p q hp2 hq2)
  have DB := hid (fun u (a : Option Addr) (c : Nat) (h : RdC u a B.length c B) => has_reg h RB p q hp2 hq2)
  have DU := hid (fun u (a : Option Addr) (c : Nat) (h : RdC u a (mk or A B).length c (mk or A B)) => has_reg h GU.reg p q hp2 hq2)
  have DS := hid (fun u (a : Option Addr) (c : Nat) (h : RdC u a (mk sub A B).length c (mk sub A B)) => has_reg h GS.reg p q hp2 hq2)
  have DC := hid (fun u (a : Option Addr) (c : Nat) (h : RdC u a (mk and A B).length c (mk and A B)) => has_reg h GC.reg p q hp2 hq2)
  have DR := hid (fun u (a : Option Addr) (c : Nat) (h : RdC u a A.length c A) => rpt_any a A.length c A p q hp2 hq2 u h)
  rw [EU] at DU
  rw [ES] at DS
  rw [EC] at DC
  have HGU := hid GU
  have HGS := hid GS
  have HGC := hid GC
  clear EU ES EC GU GS GC RA RB
  generalize pt A p q = α at DA DU DS DC DR
  generalize pt B p q = β at DB DU DS DC
  go_wp2_with fail
  refine (DA.out _ _ _ HA.out).mono ?_
  rintro e w3 ⟨rfl, hb3⟩
  replace HA := hid (HA.out.on hb3)
  replace HB := hid (HB.out.on hb3)
  replace HBel := hid (Below.on HBel.out hb3)
  clear hb3
  go_wp2_with fail
  refine (DB.out _ _ _ HB.out).mono ?_
  rintro e w4 ⟨rfl, hb4⟩
  replace HA := hid (HA.out.on hb4)
  replace HB := hid (HB.out.on hb4)
  replace HBel := hid (Below.on HBel.out hb4)
  clear hb4
  go_wp2_with fail
  refine (union_reg HA.out HB.out KA.out KB.out (by decide)).mono ?_
  rintro e w5 ⟨a5, c5, rfl, h5, hb5⟩
  replace HA := hid (HA.out.on hb5)
  replace HB := hid (HB.out.on hb5)
  replace HBel := hid (Below.on HBel.out hb5)
  have HU := hid h5
  clear h5 hb5
  go_wp2_with fail
  refine (subtract_reg HA.out HB.out KA.out KB.out (by decide)).mono ?_
  rintro e w6 ⟨a6, c6, rfl, h6, hb6⟩
  replace HA := hid (HA.out.on hb6)
  replace HB := hid (HB.out.on hb6)
  replace HU := hid (HU.out.on hb6)
  replace HBel := hid (Below.on HBel.out hb6)
  have HS := hid h6
  clear h6 hb6
  go_wp2_with fail
  refine (intersect_reg HA.out HB.out KA.out KB.out (by decide)).mono ?_
  rintro e w7 ⟨a7, c7, rfl, h7, hb7⟩
  replace HA := hid (HA.out.on hb7)
  replace HB := hid (HB.out.on hb7)
  replace HU := hid (HU.out.on hb7)
  replace HS := hid (HS.out.on hb7)
  replace HBel := hid (Below.on HBel.out hb7)
  have HC := hid h7
  clear h7 hb7
  cases α <;> cases β
  all_goals
    go_wp2_with fail
    refine (DU.out _ _ _ HU.out).mono ?_
    rintro e w8 ⟨rfl, hb8⟩
    replace HA := hid (HA.out.on hb8)
    replace HB := hid (HB.out.on hb8)
    replace HU := hid (HU.out.on hb8)
    replace HS := hid (HS.out.on hb8)
    replace HC := hid (HC.out.on hb8)
    replace HBel := hid (Below.on HBel.out hb8)
    clear hb8
    go_wp2_with fail
    refine (DS.out _ _ _ HS.out).mono ?_
    rintro e w9 ⟨rfl, hb9⟩
    replace HA := hid (HA.out.on hb9)
    replace HB := hid (HB.out.on hb9)
    replace HU := hid (HU.out.on hb9)
    replace HS := hid (HS.out.on hb9)
    replace HC := hid (HC.out.on hb9)
    replace HBel := hid (Below.on HBel.out hb9)
    clear hb9
    go_wp2_with fail
    refine (DC.out _ _ _ HC.out).mono ?_
    rintro e w10 ⟨rfl, hb10⟩
    replace HA := hid (HA.out.on hb10)
    replace HB := hid (HB.out.on hb10)
    replace HU := hid (HU.out.on hb10)
    replace HS := hid (HS.out.on hb10)
    replace HC := hid (HC.out.on hb10)
    replace HBel := hid (Below.on HBel.out hb10)
    clear hb10
    go_wp2_with fail
    refine (check_reg HU.out HGU.out.reg).mono ?_
    rintro e w11 ⟨rfl, hb11⟩
    replace HA := hid (HA.out.on hb11)
    replace HB := hid (HB.out.on hb11)
    replace HU := hid (HU.out.on hb11)
    replace HS := hid (HS.out.on hb11)
    replace HC := hid (HC.out.on hb11)
    replace HBel := hid (Below.on HBel.out hb11)
    clear hb11
    go_wp2_with fail
    refine (check_reg HS.out HGS.out.reg).mono ?_
    rintro e w12 ⟨rfl, hb12⟩
    replace HA := hid (HA.out.on hb12)
    replace HB := hid (HB.out.on hb12)
    replace HU := hid (HU.out.on hb12)
    replace HS := hid (HS.out.on hb12)
    replace HC := hid (HC.out.on hb12)
    replace HBel := hid (Below.on HBel.out hb12)
    clear hb12
    go_wp2_with fail
    refine (check_reg HC.out HGC.out.reg).mono ?_
    rintro e w13 ⟨rfl, hb13⟩
    replace HA := hid (HA.out.on hb13)
    replace HB := hid (HB.out.on hb13)
    replace HU := hid (HU.out.on hb13)
    replace HS := hid (HS.out.on hb13)
    replace HC := hid (HC.out.on hb13)
    replace HBel := hid (Below.on HBel.out hb13)
    clear hb13
    go_wp2_with fail
    refine (DR.out _ _ _ HA.out).mono ?_
    rintro e w14 ⟨rfl, hb14⟩
    replace HA := hid (HA.out.on hb14)
    replace HB := hid (HB.out.on hb14)
    replace HU := hid (HU.out.on hb14)
    replace HS := hid (HS.out.on hb14)
    replace HC := hid (HC.out.on hb14)
    replace HBel := hid (Below.on HBel.out hb14)
    clear hb14
    go_wp2_with fail
    refine (awake_any _).mono ?_
    rintro e w15 ⟨rfl, hb15⟩
    replace HA := hid (HA.out.on hb15)
    replace HB := hid (HB.out.on hb15)
    replace HU := hid (HU.out.on hb15)
    replace HS := hid (HS.out.on hb15)
    replace HC := hid (HC.out.on hb15)
    replace HBel := hid (Below.on HBel.out hb15)
    clear hb15
    go_wp2
    go_ret
    exact ⟨rfl, HBel.out⟩

theorem walk (a0 : Option Addr) (n0 c0 : Nat) (l0 : List (List Int)) (a1 : Option Addr) (n1 c1 : Nat) (l1 : List (List Int)) (x y : Int) (w : World) (r0 : RdN 4 w a0 n0 c0 l0) (r1 : RdN 4 w a1 n1 c1 l1) (hx : (Lit.int .i64 x).wf = true) (hy : (Lit.int .i64 y).wf = true) :
    Calls Try.prog 5 #[.slice a0 n0 c0, .slice a1 n1 c1, .int .i64 x, .int .i64 y] w fun e w' => e = .returned (.bool true) ∧ Below w.heap.size w w' := core a0 n0 c0 l0 a1 n1 c1 l1 x y w r0 r1 (range64 hx) (range64 hy)
end Go.Proofs.Ytgogpckjlfgdcaa.regionPoints
