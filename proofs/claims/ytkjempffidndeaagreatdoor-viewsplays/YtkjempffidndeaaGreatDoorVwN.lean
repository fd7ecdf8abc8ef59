/- Lemmas that the proof leans on. -/
import Derived.Test.YtkjempffidndeaaGreatDoorVwM
namespace Go.Proofs.YtkjempffidndeaaGreatDoor
open Go Go.RowKit
open List renaming getElem_toArray → lqA, getElem_cons_zero → lqB, getElem_cons_succ → lqC, setIfInBounds_toArray → lqD, set_cons_zero → lqE, set_cons_succ → lqF
set_option maxRecDepth 100000
set_option maxHeartbeats 4000000
section
def sto7 (u : World) (g : Nat) (h : Hv) : World := (((((((u.setCell ⟨g, 0, none⟩ (.int .i64 h.s)).setCell ⟨g, 1, none⟩ (.int .i64 h.x)).setCell ⟨g, 2, none⟩ (.int .i64 h.y)).setCell ⟨g, 3, none⟩ (.int .i64 h.w)).setCell ⟨g, 4, none⟩ (.int .i64 h.h)).setCell ⟨g, 5, none⟩ (.bool h.t)).setCell ⟨g, 6, none⟩ (.slice h.a h.n h.c))
theorem below_sto7 {B : Nat} {w u : World} {g : Nat} (h0 : Below B w u) (hg : B ≤ g) (h : Hv) : Below B w (sto7 u g h) := (((((((h0.setCell (p := ⟨g, 0, none⟩) hg _).setCell (p := ⟨g, 1, none⟩) hg _).setCell (p := ⟨g, 2, none⟩) hg _).setCell (p := ⟨g, 3, none⟩) hg _).setCell (p := ⟨g, 4, none⟩) hg _).setCell (p := ⟨g, 5, none⟩) hg _).setCell (p := ⟨g, 6, none⟩) hg _)
theorem Bk.sto7 {u : World} {g T : Nat} {v0 v1 v2 v3 v4 v5 v6 : Value} (h0 : Bk u g T #[v0, v1, v2, v3, v4, v5, v6]) (h : Hv) : Bk (sto7 u g h) g T (hvv h) := by
 have h1 := (((h0.set 0 (.int .i64 h.s)).set 1 (.int .i64 h.x)).set 2 (.int .i64 h.y)).set 3 (.int .i64 h.w)
 simp only [List.setIfInBounds_toArray, List.set_cons_zero, List.set_cons_succ] at h1
 have h2 := ((h1.set 4 (.int .i64 h.h)).set 5 (.bool h.t)).set 6 (.slice h.a h.n h.c)
 simp only [List.setIfInBounds_toArray, List.set_cons_zero, List.set_cons_succ] at h2
 exact h2
theorem Bk.sto7o {u : World} {p g T : Nat} {cs : Array Value} (h0 : Bk u p T cs) (hn : p ≠ g) (h : Hv) : Bk (Go.Proofs.YtkjempffidndeaaGreatDoor.sto7 u g h) p T cs := (((((((h0.other hn 0 (.int .i64 h.s)).other hn 1 (.int .i64 h.x)).other hn 2 (.int .i64 h.y)).other hn 3 (.int .i64 h.w)).other hn 4 (.int .i64 h.h)).other hn 5 (.bool h.t)).other hn 6 (.slice h.a h.n h.c))
theorem vsame_any {es : List Addr} {w0 w : World} {p q mm : Nat} {F : Fo} (h : B2q es w0 p q mm F w) (hm : mm ≤ 900) (a : Option Addr) (n c : Nat) (l : List (List Int)) (hr : RdM 6 w a n c l) (hbt : ∀ y ∈ l, Bt (nm 0 y)) (hn : n ≤ 40000) :
  Calls Tryz.prog 12 #[.pointer (some ⟨p, 0, none⟩), .pointer (some ⟨q, 0, none⟩), .slice a n c] w fun e w' => e = .returned (.bool true) ∧ Below w.heap.size w w' := by
 have CP := hid (vhits_any h.pg hm a n c l hr hbt hn)
 have CD : Hid (∀ W, RowKit.Below w.heap.size w W → Calls Tryz.prog 29 #[.pointer (some ⟨q, 0, none⟩), .slice a n c] W fun e w' => ∃ v hl, e = .returned v ∧ OwK 88 W w' v hl ∧ hl.map hcl = l.map (htF F)) := fun W hW => by
  obtain ⟨Z, hZ⟩ := (h.on hW).dq
  exact rhits_any hZ a n c l (hr.on hW) hn
 have HL := hid hr.len
 clear h hr hbt
 go_enter Tryz.func12, Tryz.ntmps12
 go_wp2_with fail
 refine CP.out.mono ?_
 rintro e W1 ⟨v1, l1, rfl, hO1, hm1⟩
 have C2 := hid (CD.out W1 hO1.bel)
 have HO1 := hid hO1
 obtain ⟨a1, c1, rfl⟩ := own_shp hO1.own
 clear hO1 CP CD
 go_wp2_with fail
 refine C2.out.mono ?_
 rintro e W2 ⟨v2, l2, rfl, hO2, hm2⟩
 have HO2 := hid hO2
 have HO3 := hid (HO1.out.on hO2.bel)
 have HB2 := hid (Below.on HO1.out.bel hO2.bel)
 obtain ⟨a2, c2, rfl⟩ := own_shp hO2.own
 have hl1 : l1.length = n := by
  have := congrArg List.length hm1
  rw [List.length_map, List.length_map, HL.out] at this
  exact this
 have hl2 : l2.length = n := by
  have := congrArg List.length hm2
  rw [List.length_map, List.length_map, HL.out] at this
  exact this
 have HM : Hid (∀ (j : Nat) (x y : Hv), l1[j]? = some x → l2[j]? = some y → hcl x = hcl y) := fun j x y hx hy => by
  have h1 : (l1.map hcl)[j]? = some (hcl x) := by rw [List.getElem?_map, hx]; rfl
  have h2 : (l2.map hcl)[j]? = some (hcl y) := by rw [List.getElem?_map, hy]; rfl
  rw [hm1, ← hm2, h2] at h1
  exact (Option.some.inj h1).symm
 rw [hl1, hl2]
 have HL1 := hid hl1
 have HL2 := hid hl2
 clear hO2 hm1 hm2 hl1 hl2 HO1 C2
 go_wp2
 go_loopw [9] (fun i wr => ∃ j : Nat, i = .int .i64 j ∧ j ≤ n ∧ RowKit.Below W2.heap.size W2 wr) (fun i _ => n - (numOf i).toNat)
 case atStart => exact ⟨0, rfl, by omega, Below.refl _ _⟩
 case round =>
  obtain ⟨j, rfl, hj, hbr⟩ := hrel
  by_cases hgo : j < n
  ·have e1 : decide ((j : Int) < n) = true := decide_eq_true (by omega)
   have e2 : (j : Int) < n := by omega
   obtain ⟨x, hx⟩ : ∃ x, l1[j]? = some x := ⟨_, List.getElem?_eq_getElem (by rw [HL1.out]; exact hgo)⟩
   obtain ⟨y, hy⟩ : ∃ y, l2[j]? = some y := ⟨_, List.getElem?_eq_getElem (by rw [HL2.out]; exact hgo)⟩
   have hxy := HM.out j x y hx hy
   have hox := HO3.out.on hbr
   have hoy := HO2.out.on hbr
   obtain ⟨g1, d1, he1, hg1, hc1⟩ := hox.el hx
   obtain ⟨g2, d2, he2, hg2, hc2⟩ := hoy.el hy
   rw [HL1.out] at he1
   rw [HL2.out] at he2
   simp only [Value.slice.injEq, true_and] at he1 he2
   obtain ⟨rfl, rfl⟩ := he1
   obtain ⟨rfl, rfl⟩ := he2
   have hrx := hox.reg x (List.mem_of_getElem? hx)
   have hry := hoy.reg y (List.mem_of_getElem? hy)
   have x0 : wr.cell? ⟨g1, j * 7, none⟩ = some (.int .i64 x.s) := hc1 0 _ (by decide) rfl
   have x1 : wr.cell? ⟨g1, j * 7 + 1, none⟩ = some (.int .i64 x.x) := hc1 1 _ (by decide) rfl
   have x2 : wr.cell? ⟨g1, j * 7 + 2, none⟩ = some (.int .i64 x.y) := hc1 2 _ (by decide) rfl
   have x3 : wr.cell? ⟨g1, j * 7 + 3, none⟩ = some (.int .i64 x.w) := hc1 3 _ (by decide) rfl
   have x4 : wr.cell? ⟨g1, j * 7 + 4, none⟩ = some (.int .i64 x.h) := hc1 4 _ (by decide) rfl
   have x5 : wr.cell? ⟨g1, j * 7 + 5, none⟩ = some (.bool x.t) := hc1 5 _ (by decide) rfl
   have x6 : wr.cell? ⟨g1, j * 7 + 6, none⟩ = some (.slice x.a x.n x.c) := hc1 6 _ (by decide) rfl
   have y0 : wr.cell? ⟨g2, j * 7, none⟩ = some (.int .i64 y.s) := hc2 0 _ (by decide) rfl
   have y1 : wr.cell? ⟨g2, j * 7 + 1, none⟩ = some (.int .i64 y.x) := hc2 1 _ (by decide) rfl
   have y2 : wr.cell? ⟨g2, j * 7 + 2, none⟩ = some (.int .i64 y.y) := hc2 2 _ (by decide) rfl
   have y3 : wr.cell? ⟨g2, j * 7 + 3, none⟩ = some (.int .i64 y.w) := hc2 3 _ (by decide) rfl
   have y4 : wr.cell? ⟨g2, j * 7 + 4, none⟩ = some (.int .i64 y.h) := hc2 4 _ (by decide) rfl
   have y5 : wr.cell? ⟨g2, j * 7 + 5, none⟩ = some (.bool y.t) := hc2 5 _ (by decide) rfl
   have y6 : wr.cell? ⟨g2, j * 7 + 6, none⟩ = some (.slice y.a y.n y.c) := hc2 6 _ (by decide) rfl
   have HRX := hid hrx
   have HRY := hid hry
   have HXY := hid hxy
   have HBR := hid hbr
   clear hx hy hxy hox hoy hc1 hc2 hrx hry hbr
   go_upto_region 7 with fail
   go_cut [10, 11] (fun v1 v2 wc => ∃ gA gB, v1 = .pointer (some ⟨gA, 0, none⟩) ∧ v2 = .pointer (some ⟨gB, 0, none⟩) ∧ Bk wc gA 87 (hvv x) ∧ Bk wc gB 88 (hvv y) ∧ RowKit.Below wr.heap.size wr wc)
   case first =>
    refine wp_region_held_drew (S := fun uu => RowKit.Below wr.heap.size wr uu) (by kernel_rfl) ?hh (fun hHeld => ?_)
    case hh => exact ((Below.refl _ _).drew)
    generalize World.drew _ = W0 at hHeld ⊢
    try dsimp only at hHeld
    refine wpAnyH_take (i := 0) (v := ?_) rfl (by kernel_rfl) (by kernel_rfl) (by kernel_rfl) (fun _ _ _ h => h) (Or.inl ⟨by kernel_rfl, ?hy0⟩) (by assumption) ?_
    case hy0 => (intro wI hSw; (try dsimp only at hSw); go_simp; try with_reducible rfl)
    try simp only [Act.put, lqA, lqB, lqD, lqE, lqF]
    refine wpAnyH_take (i := 1) (v := ?_) rfl (by kernel_rfl) (by kernel_rfl) (by kernel_rfl) (fun _ _ _ h => h) (Or.inl ⟨by kernel_rfl, ?hy1⟩) (by assumption) ?_
    case hy1 => (intro wI hSw; (try dsimp only at hSw); go_simp; try with_reducible rfl)
    try simp only [Act.put, lqA, lqB, lqC, lqD, lqE, lqF]
    refine wpAnyH_take (i := 2) (v := ?_) rfl (by kernel_rfl) (by kernel_rfl) (by kernel_rfl) (fun _ _ _ h => h) (Or.inl ⟨by kernel_rfl, ?hy2⟩) (by assumption) ?_
    case hy2 => (intro wI hSw; (try dsimp only at hSw); go_simp; try with_reducible rfl)
    try simp only [Act.put, lqA, lqB, lqC, lqD, lqE, lqF]
    refine wpAnyH_take (i := 3) (v := ?_) rfl (by kernel_rfl) (by kernel_rfl) (by kernel_rfl) (fun _ _ _ h => h) (Or.inl ⟨by kernel_rfl, ?hy3⟩) (by assumption) ?_
    case hy3 => (intro wI hSw; (try dsimp only at hSw); have k0 := (hSw.cell hg1).trans x0; have k1 := (hSw.cell hg1).trans x1; have k2 := (hSw.cell hg1).trans x2; have k3 := (hSw.cell hg1).trans x3; have k4 := (hSw.cell hg1).trans x4; have k5 := (hSw.cell hg1).trans x5; have k6 := (hSw.cell hg1).trans x6; go_simp; try with_reducible rfl)
    try simp only [Act.put, lqA, lqB, lqC, lqD, lqE, lqF]
    refine wpAnyH_take (i := 4) (v := ?_) rfl (by kernel_rfl) (by kernel_rfl) (by kernel_rfl) (fun _ _ _ h => h) (Or.inl ⟨by kernel_rfl, ?hy4⟩) (by assumption) ?_
    case hy4 => (intro wI hSw; (try dsimp only at hSw); go_simp; try with_reducible rfl)
    try simp only [Act.put, lqA, lqB, lqC, lqD, lqE, lqF]
    refine wpAnyH_take (i := 5) (v := ?_) rfl (by kernel_rfl) (by kernel_rfl) (by kernel_rfl) (fun _ _ _ h => h) (Or.inl ⟨by kernel_rfl, ?hy5⟩) (by assumption) ?_
    case hy5 => (intro wI hSw; (try dsimp only at hSw); go_simp; try with_reducible rfl)
    try simp only [Act.put, lqA, lqB, lqC, lqD, lqE, lqF]
    refine wpAnyH_take (i := 6) (v := ?_) rfl (by kernel_rfl) (by kernel_rfl) (by kernel_rfl) (fun _ _ _ h => h) (Or.inl ⟨by kernel_rfl, ?hy6⟩) (by assumption) ?_
    case hy6 => (intro wI hSw; (try dsimp only at hSw); go_simp; try with_reducible rfl)
    try simp only [Act.put, lqA, lqB, lqC, lqD, lqE, lqF]
    refine wpAnyH_take (i := 7) (v := ?_) rfl (by kernel_rfl) (by kernel_rfl) (by kernel_rfl) (fun _ _ _ h => h) (Or.inl ⟨by kernel_rfl, ?hy7⟩) (by assumption) ?_
    case hy7 => (intro wI hSw; (try dsimp only at hSw); have m0 := (hSw.cell hg2).trans y0; have m1 := (hSw.cell hg2).trans y1; have m2 := (hSw.cell hg2).trans y2; have m3 := (hSw.cell hg2).trans y3; have m4 := (hSw.cell hg2).trans y4; have m5 := (hSw.cell hg2).trans y5; have m6 := (hSw.cell hg2).trans y6; go_simp; try with_reducible rfl)
    try simp only [Act.put, lqA, lqB, lqC, lqD, lqE, lqF]
    refine wpAnyH_ready (rs := [8, 9]) (by kernel_rfl) (by simp) ?_
    refine AllReadyH.cons rfl (fun K hK => ?_) ?_
    ·have bkA := bk_new W0 #[.int .i64 0, .int .i64 0, .int .i64 0, .int .i64 0, .int .i64 0, .bool false, .slice none 0 0] 87
     have hb1 := bel_new W0 (.cells #[.int .i64 0, .int .i64 0, .int .i64 0, .int .i64 0, .int .i64 0, .bool false, .slice none 0 0] 87)
     have hH2 := Below.on hHeld hb1
     have hgA : wr.heap.size ≤ W0.heap.size := hHeld.size
     try (have hAB : W0.heap.size ≠ gB := by have := bkB.lt; omega)
     try replace bkB := bkB.on hb1
     go_simp
     refine hK.out _ _ hH2 (fun _ => ?_)
     clear hK K hHeld hb1
     have hHeld := hH2
     clear hH2
     generalize W0.alloc (.cells #[.int .i64 0, .int .i64 0, .int .i64 0, .int .i64 0, .int .i64 0, .bool false, .slice none 0 0] 87) = W8 at *
     generalize W0.heap.size = gA at *
     try simp only [Act.put, lqA, lqB, lqC, lqD, lqE, lqF]
     refine wpAnyH_ready (rs := [9]) (by kernel_rfl) (by simp) ?_
     refine AllReadyH.cons rfl (fun K hK => ?_) AllReadyH.nil
     have bkB := bk_new W8 #[.int .i64 0, .int .i64 0, .int .i64 0, .int .i64 0, .int .i64 0, .bool false, .slice none 0 0] 88
     have hb1 := bel_new W8 (.cells #[.int .i64 0, .int .i64 0, .int .i64 0, .int .i64 0, .int .i64 0, .bool false, .slice none 0 0] 88)
     have hH2 := Below.on hHeld hb1
     have hgB : wr.heap.size ≤ W8.heap.size := hHeld.size
     try (have hAB : W8.heap.size ≠ gA := by have := bkA.lt; omega)
     try replace bkA := bkA.on hb1
     go_simp
     refine hK.out _ _ hH2 (fun _ => ?_)
     clear hK K hHeld hb1
     have hHeld := hH2
     clear hH2
     generalize W8.alloc (.cells #[.int .i64 0, .int .i64 0, .int .i64 0, .int .i64 0, .int .i64 0, .bool false, .slice none 0 0] 88) = W9 at *
     generalize W8.heap.size = gB at *
     try simp only [Act.put, lqA, lqB, lqC, lqD, lqE, lqF]
     refine wpAnyH_ready (rs := [10]) (by kernel_rfl) (by simp) ?_
     refine AllReadyH.cons rfl (fun K hK => ?_) AllReadyH.nil
     have fz := bkA.fz
     have q0 := bkA.cell 0
     have q1 := bkA.cell 1
     have q2 := bkA.cell 2
     have q3 := bkA.cell 3
     have q4 := bkA.cell 4
     have q5 := bkA.cell 5
     have q6 := bkA.cell 6
     have hH2 := below_sto7 hHeld hgA x
     replace bkA := bkA.sto7 x
     replace bkB := bkB.sto7o (g := gA) (fun e => hAB (by omega)) x
     go_simp
     refine hK.out _ _ hH2 (fun _ => ?_)
     clear hK K hHeld fz q0 q1 q2 q3 q4 q5 q6
     have hHeld := hH2
     clear hH2
     change wpAnyH _ _ _ _ _ _ _ _ (sto7 W9 gA x)
     generalize sto7 W9 gA x = W10 at *
     try simp only [Act.put, lqA, lqB, lqC, lqD, lqE, lqF]
     refine wpAnyH_ready (rs := [11]) (by kernel_rfl) (by simp) ?_
     refine AllReadyH.cons rfl (fun K hK => ?_) AllReadyH.nil
     have fz := bkB.fz
     have q0 := bkB.cell 0
     have q1 := bkB.cell 1
     have q2 := bkB.cell 2
     have q3 := bkB.cell 3
     have q4 := bkB.cell 4
     have q5 := bkB.cell 5
     have q6 := bkB.cell 6
     have hH2 := below_sto7 hHeld hgB y
     replace bkB := bkB.sto7 y
     replace bkA := bkA.sto7o (g := gB) (fun e => hAB (by omega)) y
     go_simp
     refine hK.out _ _ hH2 (fun _ => ?_)
     clear hK K hHeld fz q0 q1 q2 q3 q4 q5 q6
     have hHeld := hH2
     clear hH2
     change wpAnyH _ _ _ _ _ _ _ _ (sto7 W10 gB y)
     generalize sto7 W10 gB y = W11 at *
     try simp only [Act.put, lqA, lqB, lqC, lqD, lqE, lqF]
     refine wpAnyH_done (by kernel_rfl) ?_ _
     go_wp2_with fail
     go_meet
     exact ⟨gA, gB, rfl, rfl, bkA, bkB, hHeld⟩
    refine AllReadyH.cons rfl (fun K hK => ?_) ?_
    ·have bkB := bk_new W0 #[.int .i64 0, .int .i64 0, .int .i64 0, .int .i64 0, .int .i64 0, .bool false, .slice none 0 0] 88
     have hb1 := bel_new W0 (.cells #[.int .i64 0, .int .i64 0, .int .i64 0, .int .i64 0, .int .i64 0, .bool false, .slice none 0 0] 88)
     have hH2 := Below.on hHeld hb1
     have hgB : wr.heap.size ≤ W0.heap.size := hHeld.size
     try (have hAB : W0.heap.size ≠ gA := by have := bkA.lt; omega)
     try replace bkA := bkA.on hb1
     go_simp
     refine hK.out _ _ hH2 (fun _ => ?_)
     clear hK K hHeld hb1
     have hHeld := hH2
     clear hH2
     generalize W0.alloc (.cells #[.int .i64 0, .int .i64 0, .int .i64 0, .int .i64 0, .int .i64 0, .bool false, .slice none 0 0] 88) = W9 at *
     generalize W0.heap.size = gB at *
     try simp only [Act.put, lqA, lqB, lqC, lqD, lqE, lqF]
     refine wpAnyH_ready (rs := [8]) (by kernel_rfl) (by simp) ?_
     refine AllReadyH.cons rfl (fun K hK => ?_) AllReadyH.nil
     have bkA := bk_new W9 #[.int .i64 0, .int .i64 0, .int .i64 0, .int .i64 0, .int .i64 0, .bool false, .slice none 0 0] 87
     have hb1 := bel_new W9 (.cells #[.int .i64 0, .int .i64 0, .int .i64 0, .int .i64 0, .int .i64 0, .bool false, .slice none 0 0] 87)
     have hH2 := Below.on hHeld hb1
     have hgA : wr.heap.size ≤ W9.heap.size := hHeld.size
     try (have hAB : W9.heap.size ≠ gB := by have := bkB.lt; omega)
     try replace bkB := bkB.on hb1
     go_simp
     refine hK.out _ _ hH2 (fun _ => ?_)
     clear hK K hHeld hb1
     have hHeld := hH2
     clear hH2
     generalize W9.alloc (.cells #[.int .i64 0, .int .i64 0, .int .i64 0, .int .i64 0, .int .i64 0, .bool false, .slice none 0 0] 87) = W8 at *
     generalize W9.heap.size = gA at *
     try simp only [Act.put, lqA, lqB, lqC, lqD, lqE, lqF]
     refine wpAnyH_ready (rs := [10]) (by kernel_rfl) (by simp) ?_
     refine AllReadyH.cons rfl (fun K hK => ?_) AllReadyH.nil
     have fz := bkA.fz
     have q0 := bkA.cell 0
     have q1 := bkA.cell 1
     have q2 := bkA.cell 2
     have q3 := bkA.cell 3
     have q4 := bkA.cell 4
     have q5 := bkA.cell 5
     have q6 := bkA.cell 6
     have hH2 := below_sto7 hHeld hgA x
     replace bkA := bkA.sto7 x
     replace bkB := bkB.sto7o (g := gA) (fun e => hAB (by omega)) x
     go_simp
     refine hK.out _ _ hH2 (fun _ => ?_)
     clear hK K hHeld fz q0 q1 q2 q3 q4 q5 q6
     have hHeld := hH2
     clear hH2
     change wpAnyH _ _ _ _ _ _ _ _ (sto7 W8 gA x)
     generalize sto7 W8 gA x = W10 at *
     try simp only [Act.put, lqA, lqB, lqC, lqD, lqE, lqF]
     refine wpAnyH_ready (rs := [11]) (by kernel_rfl) (by simp) ?_
     refine AllReadyH.cons rfl (fun K hK => ?_) AllReadyH.nil
     have fz := bkB.fz
     have q0 := bkB.cell 0
     have q1 := bkB.cell 1
     have q2 := bkB.cell 2
     have q3 := bkB.cell 3
     have q4 := bkB.cell 4
     have q5 := bkB.cell 5
     have q6 := bkB.cell 6
     have hH2 := below_sto7 hHeld hgB y
     replace bkB := bkB.sto7 y
     replace bkA := bkA.sto7o (g := gB) (fun e => hAB (by omega)) y
     go_simp
     refine hK.out _ _ hH2 (fun _ => ?_)
     clear hK K hHeld fz q0 q1 q2 q3 q4 q5 q6
     have hHeld := hH2
     clear hH2
     change wpAnyH _ _ _ _ _ _ _ _ (sto7 W10 gB y)
     generalize sto7 W10 gB y = W11 at *
     try simp only [Act.put, lqA, lqB, lqC, lqD, lqE, lqF]
     refine wpAnyH_done (by kernel_rfl) ?_ _
     go_wp2_with fail
     go_meet
     exact ⟨gA, gB, rfl, rfl, bkA, bkB, hHeld⟩
    exact AllReadyH.nil
   case rest =>
    obtain ⟨gA, gB, rfl, rfl, hkA, hkB, hbc⟩ := hcut
    have HRX2 := hid (HRX.out.on hbc)
    have HRY2 := hid (HRY.out.on hbc)
    obtain ⟨xs, xx, xy, xw, xh, xt, xa, xn, xc, xl⟩ := x
    obtain ⟨ys, yx, yy, yw, yh, yt, ya, yn, yc, yl⟩ := y
    have hxy := HXY.out
    simp only [hcl, Prod.mk.injEq, List.cons.injEq, and_true] at hxy
    obtain ⟨⟨rfl, rfl, rfl, rfl, rfl⟩, rfl, rfl⟩ := hxy
    have CS := hid (samerects_any xa ya xn xc yn yc xl xl wc HRX2.out HRY2.out)
    rw [leqs_same] at CS
    have p0 := hkA.cell 0
    have r0 := hkB.cell 0
    have p1 := hkA.cell 1
    have r1 := hkB.cell 1
    have p2 := hkA.cell 2
    have r2 := hkB.cell 2
    have p3 := hkA.cell 3
    have r3 := hkB.cell 3
    have p4 := hkA.cell 4
    have r4 := hkB.cell 4
    have p5 := hkA.cell 5
    have r5 := hkB.cell 5
    have p6 := hkA.cell 6
    have r6 := hkB.cell 6
    have HBC := hid (Below.on HBR.out hbc)
    have t0 : (xs != xs) = false := by simp
    have t1 : (xx != xx) = false := by simp
    have t2 : (xy != xy) = false := by simp
    have t3 : (xw != xw) = false := by simp
    have t4 : (xh != xh) = false := by simp
    have t5 : (xt != xt) = false := by simp
    simp only [hvv] at p0 p1 p2 p3 p4 p5 p6 r0 r1 r2 r3 r4 r5 r6
    clear hkA hkB hbc HRX HRY HRX2 HRY2 HXY HBR x0 x1 x2 x3 x4 x5 x6 y0 y1 y2 y3 y4 y5 y6
    go_wp2_with fail
    refine CS.out.mono ?_
    rintro e u ⟨rfl, q8, rfl⟩
    clear p0 p1 p2 p3 p4 p5 p6 r0 r1 r2 r3 r4 r5 r6 CS
    go_wp2
    go_roundw
    case rel => exact ⟨j + 1, by go_num, by omega, below_drewN HBC.out q8⟩
    case measure => simp [numOf]; omega
  ·have e1 : decide ((j : Int) < n) = false := decide_eq_false (by omega)
   have e2 : ¬ (j : Int) < n := by omega
   have HF := hid (Below.on HB2.out hbr)
   clear hbr
   go_wp2
   go_ret
   exact ⟨rfl, HF.out⟩
end
end Go.Proofs.YtkjempffidndeaaGreatDoor
