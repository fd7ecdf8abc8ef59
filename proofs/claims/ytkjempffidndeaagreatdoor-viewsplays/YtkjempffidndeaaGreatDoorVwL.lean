/- Lemmas that the proof leans on. -/
import Derived.Test.YtkjempffidndeaaGreatDoorVwK
namespace Go.Proofs.YtkjempffidndeaaGreatDoor
open Go Go.RowKit
open List renaming getElem_toArray → lqA, getElem_cons_zero → lqB, getElem_cons_succ → lqC, setIfInBounds_toArray → lqD, set_cons_zero → lqE, set_cons_succ → lqF
set_option maxRecDepth 100000
set_option maxHeartbeats 4000000
section
theorem szf_none {k : Int} {l : List (List Int)} (h : ∀ (i : Nat) (y : List Int), i < l.length → l[i]? = some y → hd y ≠ k) : szf l k = [0, 0] := by
 have : fnd k l = none := by
  induction l with
  | nil => rfl
  | cons x l ih =>
   rw [fnd, if_neg (h 0 x (by simp) rfl)]
   exact ih fun i y hi hy => h (i + 1) y (by simp; omega) (by simpa using hy)
 rw [szf, this]
theorem szf_some {k : Int} {l : List (List Int)} {j : Nat} {z0 z1 z2 : Int} (hj : l[j]? = some [z0, z1, z2]) (hk : z0 = k) (h : ∀ (i : Nat) (y : List Int), i < j → l[i]? = some y → hd y ≠ k) : szf l k = [z1, z2] := by
 have : fnd k l = some [z0, z1, z2] := by
  induction l generalizing j with
  | nil => simp at hj
  | cons x l ih =>
   cases j with
   | zero =>
    simp only [List.getElem?_cons_zero, Option.some.injEq] at hj
    subst hj
    rw [fnd, if_pos (show hd [z0, z1, z2] = k from hk)]
   | succ j =>
    rw [fnd, if_neg (h 0 x (by omega) rfl)]
    exact ih (by simpa using hj) fun i y hi hy => h (i + 1) y (by omega) (by simpa using hy)
 rw [szf, this]
 rfl
theorem ofL_take {F : Fo} {zs rs : List (List Int)} {j : Nat} {r : List Int} (h : rs[j]? = some r) : ofL F zs (rs.take (j + 1)) = ofL F zs (rs.take j) ++ (wlk F 41 (nm 0 r) 0 0).map fun c => vwv F zs [nm 0 c, edg (nm 1 r) + nm 1 c, edg (nm 2 r) + nm 2 c] := by
 rw [ofL, snL_take h, List.map_append, snr, List.map_map]
 rfl
theorem map_take1 {l : List (List Int)} {k : Nat} {y : List Int} (h : l[k]? = some y) (g : List Int → List Int) : (l.take (k + 1)).map g = (l.take k).map g ++ [g y] := by
 rw [take_one h, List.map_append]
 rfl
variable {es : List Addr} {w0 w w' : World} {q mm : Nat} {F : Fo} {Z : List Nat}
theorem rof_any (h : Dq w0 q mm F w Z) (a : Option Addr) (n c : Nat) (rs : List (List Int)) (hr : RdM 3 w a n c rs) (hbt : ∀ r ∈ rs, ∀ z ∈ r, Bt z) (hn : n ≤ 1000) (a' : Option Addr) (n' c' : Nat) (zs : List (List Int)) (hz : RdM 3 w a' n' c' zs) :
  Calls Tryz.prog 11 #[.pointer (some ⟨q, 0, none⟩), .slice a n c, .slice a' n' c'] w fun e w' => ∃ v, e = .returned v ∧ OwM 6 40 w w' v (ofL F zs rs) := by
 obtain ⟨i0, hi, hi0, hi1, hi2⟩ := infoMP infoView
 have hns := hr.small
 have hnz := hz.small
 have HLR := hid hr.len
 have HLZ := hid hz.len
 have HR := hid hr
 have HZ := hid hz
 have HD := hid h
 have HBT := hid hbt
 have hpl : ∀ j, j ≤ n → (ofL F zs (rs.take j)).length ≤ 40000 := fun j hj => by
  have h1 := snL_len h.ok.inv h.ok.nof (rs.take j)
  rw [List.length_take] at h1
  rw [ofL, List.length_map]
  omega
 have HPL := hid hpl
 clear h hr hz hbt hpl
 go_enter Tryz.func11, Tryz.ntmps11
 go_wp2
 go_loopw [7, 8] (fun v i wr => ∃ j : Nat, i = .int .i64 j ∧ j ≤ n ∧ OwM 6 40 w wr v (ofL F zs (rs.take j))) (fun _ i _ => n - (numOf i).toNat)
 case atStart => exact ⟨0, rfl, by omega, OwM.nil _ _ _⟩
 case round =>
  obtain ⟨j, rfl, hj, hO⟩ := hrel
  obtain ⟨P0, hP0⟩ : ∃ P0, P0 = ofL F zs (rs.take j) := ⟨_, rfl⟩
  rw [← hP0] at hO
  have HP0 := hid hP0
  have hP0l : P0.length ≤ 40000 := by rw [hP0]; exact HPL.out j hj
  have HO := hid hO
  obtain ⟨a1, c1, rfl, -, hx1⟩ := hO.rd
  have HX1 := hid hx1
  clear hO hP0 hx1
  by_cases hgo : j < n
  ·have e1 : decide ((j : Int) < n) = true := decide_eq_true (by omega)
   have e2 : (j : Int) < n := by omega
   obtain ⟨b1, o1, z0, z1, z2, rfl, hl1, hrj, d0, d1, d2⟩ := (HR.out.on HO.out.bel).el3 hgo
   have hzb := HBT.out _ (List.mem_of_getElem? hrj)
   obtain ⟨E1, hE1⟩ : ∃ E1, E1 = edg z1 := ⟨_, rfl⟩
   obtain ⟨E2, hE2⟩ : ∃ E2, E2 = edg z2 := ⟨_, rfl⟩
   have he1 := edg_le z1
   have he2 := edg_le z2
   have CE1 : Hid (∀ u : World, Calls Tryz.prog 27 #[.int .i64 z1] u fun e w' => e = .returned (.int .i64 E1) ∧ w' = u) := fun u => by rw [hE1]; exact redg_any z1 (hzb z1 (by simp)) u
   have CE2 : Hid (∀ u : World, Calls Tryz.prog 27 #[.int .i64 z2] u fun e w' => e = .returned (.int .i64 E2) ∧ w' = u) := fun u => by rw [hE2]; exact redg_any z2 (hzb z2 (by simp)) u
   rw [← hE1] at he1
   rw [← hE2] at he2
   obtain ⟨L, hL⟩ : ∃ L, L = wlk F 41 z0 0 0 := ⟨_, rfl⟩
   have CW := hid (HD.out.walks z0 wr HO.out.bel)
   rw [← hL] at CW
   obtain ⟨G, hG⟩ : ∃ G : List Int → List Int, G = fun c => vwv F zs [nm 0 c, E1 + nm 1 c, E2 + nm 2 c] := ⟨_, rfl⟩
   have HNX : Hid (ofL F zs (rs.take (j + 1)) = P0 ++ L.map G) := by
    rw [Hid, ofL_take hrj, HP0.out, hL, hG, hE1, hE2]
    rfl
   have HFAR : Hid (∀ z ∈ L, ∃ a b c, z = [a, b, c] ∧ -687865856 ≤ b ∧ b ≤ 687865856 ∧ -687865856 ≤ c ∧ c ≤ 687865856) := fun z hz => by rw [hL] at hz; exact wlk_far0 HD.out.ok.szf _ z hz
   have HBUF : Hid (∀ z ∈ L, ∃ s, gt F (nm 0 z) = some s) := fun z hz => by
    rw [hL] at hz
    obtain ⟨s, h1, _⟩ := wlk_buf _ _ _ _ z hz
    exact ⟨s, h1⟩
   have HGG := hid hG
   have hLl : L.length ≤ 40 := by
    rw [hL]
    exact Nat.le_trans (wlk_length HD.out.ok.inv HD.out.ok.nof _ _ _ _) (Nat.le_trans (dsc_le _ _) HD.out.ok.inv.len)
   have HRJ := hid hrj
   clear hrj hzb hE1 hE2 hL hG d1 d2
   go_wp2_with fail
   refine CW.out.mono ?_
   rintro e V ⟨a2, c2, rfl, hr2, hx2, hb2⟩
   obtain ⟨NL, hNL⟩ : ∃ NL, NL = L.length := ⟨_, rfl⟩
   rw [← hNL] at hr2 hLl
   have HO2 := hid (HO.out.on hb2)
   have HAP : Hid (∀ x, a2 = some x → (Value.slice a1 P0.length c1).ownBlock ≠ some x.block) := fun x hx e => by
    have h1 := hx2 x hx
    have h2 := (HO.out.own.lt _ e).2
    omega
   have HR2 := hid hr2
   have hN63 : NL ≤ 9223372036854775807 := hr2.small.1
   rw [← hNL]
   have HNL := hid hNL
   clear hb2 hx2 hr2 CW hNL d0
   go_wp2
   obtain ⟨WO, rfl⟩ : ∃ WO, WO = wr := ⟨_, rfl⟩
   go_loopw [7, 10] (fun v i wx => ∃ k : Nat, i = .int .i64 k ∧ k ≤ NL ∧ OwM 6 40 w wx v (P0 ++ (L.take k).map G) ∧ RdM 3 wx a2 NL c2 L ∧ ∀ x, a2 = some x → v.ownBlock ≠ some x.block) (fun _ i _ => NL - (numOf i).toNat)
   case atStart => exact ⟨0, rfl, by omega, by simpa using HO2.out, HR2.out, HAP.out⟩
   case round =>
    obtain ⟨k, rfl, hk, hO3, hR3, hA3⟩ := hrel
    obtain ⟨P1, hP1⟩ : ∃ P1, P1 = P0 ++ (L.take k).map G := ⟨_, rfl⟩
    rw [← hP1] at hO3
    have hP1l : P1.length ≤ 40040 := by rw [hP1, List.length_append, List.length_map, List.length_take]; omega
    have HP1 := hid hP1
    have HO3 := hid hO3
    have HR3 := hid hR3
    obtain ⟨a3, c3, rfl, -, -⟩ := hO3.rd
    have HA3 := hid hA3
    clear hO3 hP1 hR3 hA3
    by_cases hgk : k < NL
    ·have e3 : decide ((k : Int) < NL) = true := decide_eq_true (by omega)
     have e4 : (k : Int) < NL := by omega
     obtain ⟨b2, o2, y0, y1, y2, rfl, hl2, hyk, f0, f1, f2⟩ := HR3.out.el3 hgk
     obtain ⟨_, _, _, hey, hy1, hy2, hy3, hy4⟩ := HFAR.out _ (List.mem_of_getElem? hyk)
     cases hey
     obtain ⟨t, ht⟩ := HBUF.out _ (List.mem_of_getElem? hyk)
     have ht : gt F y0 = some t := ht
     obtain ⟨g, P, s, hst, hnw, hcs⟩ := HD.out.here ht
     have hwx := HO3.out.bel
     have CS := hid (hcs wr hwx)
     obtain ⟨lg, _, _, gb, _, _, _⟩ := hnw.on hwx
     obtain ⟨B, hB⟩ : ∃ B, B = bufF F y0 := ⟨_, rfl⟩
     have hBs : s.no.buf = B := by
      rw [hB, bufF_some ht, ← hst]
      rfl
     rw [hBs] at gb
     obtain ⟨b1', o1', x0, x1, x2, hab, hl1', hrx, d0, d1, d2⟩ := (HR.out.on hwx).el3 hgo
     cases hab
     rw [HRJ.out] at hrx
     cases hrx
     have HB := hid hB
     have HYK := hid hyk
     obtain ⟨X, hX⟩ : ∃ X, X = y1 + E1 := ⟨_, rfl⟩
     obtain ⟨Y, hY⟩ : ∃ Y, Y = y2 + E2 := ⟨_, rfl⟩
     have hw1 : IntKind.i64.wrap (y1 + E1) = X := by rw [IntKind.wrap_i64, hX]; omega
     have hw2 : IntKind.i64.wrap (y2 + E2) = Y := by rw [IntKind.wrap_i64, hY]; omega
     have HXY : Hid (G [y0, y1, y2] = [y0, B, X, Y] ++ szf zs B) := by
      rw [Hid, HGG.out, hB, hX, hY, Int.add_comm y1, Int.add_comm y2]
      rfl
     have CSS : Hid (∀ u, RowKit.Below wr.heap.size wr u → Calls Tryz.prog 26 #[.pointer (some ⟨q, 0, none⟩), .int .i64 y0] u fun e w' => e = .returned (.pointer (some ⟨g, P, none⟩)) ∧ w' = u) := fun u hu => hcs u (Below.on hwx hu)
     clear hst hnw hcs ht hB hBs hX hY hyk hwx CS
     go_upto_region 9 with fail
     go_cut [11] (fun v wc => v = .pointer (some ⟨wr.heap.size, 0, none⟩) ∧ Bk wc wr.heap.size 40 #[.int .i64 y0, .int .i64 B, .int .i64 X, .int .i64 Y, .int .i64 0, .int .i64 0] ∧ RowKit.Below wr.heap.size wr wc)
     case first =>
      have HW0 : Hid (wr.drew.heap.size = wr.heap.size) := rfl
      refine wp_region_held_drew (S := fun uu => RowKit.Below wr.heap.size wr uu) (by kernel_rfl) ?hh (fun hHeld => ?_)
      case hh => exact ((Below.refl _ _).drew)
      generalize World.drew _ = W0 at hHeld HW0 ⊢
      try dsimp only at hHeld
      refine wpAnyH_take (i := 0) (v := ?_) rfl (by kernel_rfl) (by kernel_rfl) (by kernel_rfl) (fun _ _ _ h => h) (Or.inl ⟨by kernel_rfl, ?hy0⟩) (by assumption) ?_
      case hy0 => (intro wI hSw; (try dsimp only at hSw); go_simp; try with_reducible rfl)
      try simp only [Act.put, lqA, lqB, lqD, lqE, lqF]
      refine wpAnyH_take (i := 1) (v := ?_) rfl (by kernel_rfl) (by kernel_rfl) (by kernel_rfl) (fun _ _ _ h => h) (Or.inl ⟨by kernel_rfl, ?hy1⟩) (by assumption) ?_
      case hy1 => (intro wI hSw; (try dsimp only at hSw); go_simp; try with_reducible rfl)
      try simp only [Act.put, lqA, lqB, lqC, lqD, lqE, lqF]
      refine wpAnyH_take (i := 2) (v := ?_) rfl (by kernel_rfl) (by kernel_rfl) (by kernel_rfl) (fun _ _ _ h => h) (Or.inl ⟨by kernel_rfl, ?hy2⟩) (by assumption) ?_
      case hy2 => (intro wI hSw; (try dsimp only at hSw); go_simp; try with_reducible rfl)
      try simp only [Act.put, lqA, lqB, lqC, lqD, lqE, lqF]
      refine wpAnyH_take (i := 3) (v := ?_) rfl (by kernel_rfl) (by kernel_rfl) (by kernel_rfl) (fun _ _ _ h => h) (Or.inl ⟨by kernel_rfl, ?hy3⟩) (by assumption) ?_
      case hy3 => (intro wI hSw; (try dsimp only at hSw); go_simp; try with_reducible rfl)
      try simp only [Act.put, lqA, lqB, lqC, lqD, lqE, lqF]
      refine wpAnyH_take (i := 4) (v := ?_) rfl (by kernel_rfl) (by kernel_rfl) (by kernel_rfl) (fun _ _ _ h => h) (Or.inl ⟨by kernel_rfl, ?hy4⟩) (by assumption) ?_
      case hy4 => (intro wI hSw; (try dsimp only at hSw); have k0 := (hSw.cell hl2).trans f0; go_simp; try with_reducible rfl)
      try simp only [Act.put, lqA, lqB, lqC, lqD, lqE, lqF]
      refine wpAnyH_take (i := 5) (v := ?_) rfl (by kernel_rfl) (by kernel_rfl) (by kernel_rfl) (fun _ _ _ h => h) (Or.inl ⟨by kernel_rfl, ?hy5⟩) (by assumption) ?_
      case hy5 => (intro wI hSw; (try dsimp only at hSw); go_simp; try with_reducible rfl)
      try simp only [Act.put, lqA, lqB, lqC, lqD, lqE, lqF]
      refine wpAnyH_take (i := 6) (v := ?_) rfl (by kernel_rfl) (by kernel_rfl) (by kernel_rfl) (fun _ _ _ h => h) (Or.inl ⟨by kernel_rfl, ?hy6⟩) (by assumption) ?_
      case hy6 => (intro wI hSw; (try dsimp only at hSw); go_simp; try with_reducible rfl)
      try simp only [Act.put, lqA, lqB, lqC, lqD, lqE, lqF]
      refine wpAnyH_take (i := 7) (v := ?_) rfl (by kernel_rfl) (by kernel_rfl) (by kernel_rfl) (fun _ _ _ h => h) (Or.inl ⟨by kernel_rfl, ?hy7⟩) (by assumption) ?_
      case hy7 => (intro wI hSw; (try dsimp only at hSw); go_simp; try with_reducible rfl)
      try simp only [Act.put, lqA, lqB, lqC, lqD, lqE, lqF]
      refine wpAnyH_take (i := 8) (v := ?_) rfl (by kernel_rfl) (by kernel_rfl) (by kernel_rfl) (fun _ _ _ h => h) (Or.inl ⟨by kernel_rfl, ?hy8⟩) (by assumption) ?_
      case hy8 => (intro wI hSw; (try dsimp only at hSw); go_simp; try with_reducible rfl)
      try simp only [Act.put, lqA, lqB, lqC, lqD, lqE, lqF]
      refine wpAnyH_take (i := 9) (v := ?_) rfl (by kernel_rfl) (by kernel_rfl) (by kernel_rfl) (fun _ _ _ h => h) (Or.inl ⟨by kernel_rfl, ?hy9⟩) (by assumption) ?_
      case hy9 => (intro wI hSw; (try dsimp only at hSw); go_simp; try with_reducible rfl)
      try simp only [Act.put, lqA, lqB, lqC, lqD, lqE, lqF]
      refine wpAnyH_take (i := 10) (v := ?_) rfl (by kernel_rfl) (by kernel_rfl) (by kernel_rfl) (fun _ _ _ h => h) (Or.inl ⟨by kernel_rfl, ?hy10⟩) (by assumption) ?_
      case hy10 => (intro wI hSw; (try dsimp only at hSw); have k0 := (hSw.cell hl2).trans f0; go_simp; try with_reducible rfl)
      try simp only [Act.put, lqA, lqB, lqC, lqD, lqE, lqF]
      refine wpAnyH_take (i := 16) (v := ?_) rfl (by kernel_rfl) (by kernel_rfl) (by kernel_rfl) (fun _ _ _ h => h) (Or.inl ⟨by kernel_rfl, ?hy16⟩) (by assumption) ?_
      case hy16 => (intro wI hSw; (try dsimp only at hSw); go_simp; try with_reducible rfl)
      try simp only [Act.put, lqA, lqB, lqC, lqD, lqE, lqF]
      refine wpAnyH_take (i := 17) (v := ?_) rfl (by kernel_rfl) (by kernel_rfl) (by kernel_rfl) (fun _ _ _ h => h) (Or.inl ⟨by kernel_rfl, ?hy17⟩) (by assumption) ?_
      case hy17 => (intro wI hSw; (try dsimp only at hSw); go_simp; try with_reducible rfl)
      try simp only [Act.put, lqA, lqB, lqC, lqD, lqE, lqF]
      refine wpAnyH_take (i := 18) (v := ?_) rfl (by kernel_rfl) (by kernel_rfl) (by kernel_rfl) (fun _ _ _ h => h) (Or.inl ⟨by kernel_rfl, ?hy18⟩) (by assumption) ?_
      case hy18 => (intro wI hSw; (try dsimp only at hSw); go_simp; try with_reducible rfl)
      try simp only [Act.put, lqA, lqB, lqC, lqD, lqE, lqF]
      refine wpAnyH_take (i := 19) (v := ?_) rfl (by kernel_rfl) (by kernel_rfl) (by kernel_rfl) (fun _ _ _ h => h) (Or.inl ⟨by kernel_rfl, ?hy19⟩) (by assumption) ?_
      case hy19 => (intro wI hSw; (try dsimp only at hSw); go_simp; try with_reducible rfl)
      try simp only [Act.put, lqA, lqB, lqC, lqD, lqE, lqF]
      refine wpAnyH_take (i := 20) (v := ?_) rfl (by kernel_rfl) (by kernel_rfl) (by kernel_rfl) (fun _ _ _ h => h) (Or.inl ⟨by kernel_rfl, ?hy20⟩) (by assumption) ?_
      case hy20 => (intro wI hSw; (try dsimp only at hSw); have k1 := (hSw.cell hl2).trans f1; go_simp; try with_reducible rfl)
      try simp only [Act.put, lqA, lqB, lqC, lqD, lqE, lqF]
      refine wpAnyH_take (i := 21) (v := ?_) rfl (by kernel_rfl) (by kernel_rfl) (by kernel_rfl) (fun _ _ _ h => h) (Or.inl ⟨by kernel_rfl, ?hy21⟩) (by assumption) ?_
      case hy21 => (intro wI hSw; (try dsimp only at hSw); go_simp; try with_reducible rfl)
      try simp only [Act.put, lqA, lqB, lqC, lqD, lqE, lqF]
      refine wpAnyH_take (i := 22) (v := ?_) rfl (by kernel_rfl) (by kernel_rfl) (by kernel_rfl) (fun _ _ _ h => h) (Or.inl ⟨by kernel_rfl, ?hy22⟩) (by assumption) ?_
      case hy22 => (intro wI hSw; (try dsimp only at hSw); go_simp; try with_reducible rfl)
      try simp only [Act.put, lqA, lqB, lqC, lqD, lqE, lqF]
      refine wpAnyH_take (i := 23) (v := ?_) rfl (by kernel_rfl) (by kernel_rfl) (by kernel_rfl) (fun _ _ _ h => h) (Or.inl ⟨by kernel_rfl, ?hy23⟩) (by assumption) ?_
      case hy23 => (intro wI hSw; (try dsimp only at hSw); go_simp; try with_reducible rfl)
      try simp only [Act.put, lqA, lqB, lqC, lqD, lqE, lqF]
      refine wpAnyH_take (i := 24) (v := ?_) rfl (by kernel_rfl) (by kernel_rfl) (by kernel_rfl) (fun _ _ _ h => h) (Or.inl ⟨by kernel_rfl, ?hy24⟩) (by assumption) ?_
      case hy24 => (intro wI hSw; (try dsimp only at hSw); go_simp; try with_reducible rfl)
      try simp only [Act.put, lqA, lqB, lqC, lqD, lqE, lqF]
      refine wpAnyH_take (i := 25) (v := ?_) rfl (by kernel_rfl) (by kernel_rfl) (by kernel_rfl) (fun _ _ _ h => h) (Or.inl ⟨by kernel_rfl, ?hy25⟩) (by assumption) ?_
      case hy25 => (intro wI hSw; (try dsimp only at hSw); have m1 := (hSw.cell hl1').trans d1; go_simp; try with_reducible rfl)
      try simp only [Act.put, lqA, lqB, lqC, lqD, lqE, lqF]
      refine wpAnyH_take (i := 28) (v := ?_) rfl (by kernel_rfl) (by kernel_rfl) (by kernel_rfl) (fun _ _ _ h => h) (Or.inl ⟨by kernel_rfl, ?hy28⟩) (by assumption) ?_
      case hy28 => (intro wI hSw; (try dsimp only at hSw); go_simp; try with_reducible rfl)
      try simp only [Act.put, lqA, lqB, lqC, lqD, lqE, lqF]
      refine wpAnyH_take (i := 29) (v := ?_) rfl (by kernel_rfl) (by kernel_rfl) (by kernel_rfl) (fun _ _ _ h => h) (Or.inl ⟨by kernel_rfl, ?hy29⟩) (by assumption) ?_
      case hy29 => (intro wI hSw; (try dsimp only at hSw); go_simp; try with_reducible rfl)
      try simp only [Act.put, lqA, lqB, lqC, lqD, lqE, lqF]
      refine wpAnyH_take (i := 30) (v := ?_) rfl (by kernel_rfl) (by kernel_rfl) (by kernel_rfl) (fun _ _ _ h => h) (Or.inl ⟨by kernel_rfl, ?hy30⟩) (by assumption) ?_
      case hy30 => (intro wI hSw; (try dsimp only at hSw); go_simp; try with_reducible rfl)
      try simp only [Act.put, lqA, lqB, lqC, lqD, lqE, lqF]
      refine wpAnyH_take (i := 31) (v := ?_) rfl (by kernel_rfl) (by kernel_rfl) (by kernel_rfl) (fun _ _ _ h => h) (Or.inl ⟨by kernel_rfl, ?hy31⟩) (by assumption) ?_
      case hy31 => (intro wI hSw; (try dsimp only at hSw); go_simp; try with_reducible rfl)
      try simp only [Act.put, lqA, lqB, lqC, lqD, lqE, lqF]
      refine wpAnyH_take (i := 32) (v := ?_) rfl (by kernel_rfl) (by kernel_rfl) (by kernel_rfl) (fun _ _ _ h => h) (Or.inl ⟨by kernel_rfl, ?hy32⟩) (by assumption) ?_
      case hy32 => (intro wI hSw; (try dsimp only at hSw); have k2 := (hSw.cell hl2).trans f2; go_simp; try with_reducible rfl)
      try simp only [Act.put, lqA, lqB, lqC, lqD, lqE, lqF]
      refine wpAnyH_take (i := 33) (v := ?_) rfl (by kernel_rfl) (by kernel_rfl) (by kernel_rfl) (fun _ _ _ h => h) (Or.inl ⟨by kernel_rfl, ?hy33⟩) (by assumption) ?_
      case hy33 => (intro wI hSw; (try dsimp only at hSw); go_simp; try with_reducible rfl)
      try simp only [Act.put, lqA, lqB, lqC, lqD, lqE, lqF]
      refine wpAnyH_take (i := 34) (v := ?_) rfl (by kernel_rfl) (by kernel_rfl) (by kernel_rfl) (fun _ _ _ h => h) (Or.inl ⟨by kernel_rfl, ?hy34⟩) (by assumption) ?_
      case hy34 => (intro wI hSw; (try dsimp only at hSw); go_simp; try with_reducible rfl)
      try simp only [Act.put, lqA, lqB, lqC, lqD, lqE, lqF]
      refine wpAnyH_take (i := 35) (v := ?_) rfl (by kernel_rfl) (by kernel_rfl) (by kernel_rfl) (fun _ _ _ h => h) (Or.inl ⟨by kernel_rfl, ?hy35⟩) (by assumption) ?_
      case hy35 => (intro wI hSw; (try dsimp only at hSw); go_simp; try with_reducible rfl)
      try simp only [Act.put, lqA, lqB, lqC, lqD, lqE, lqF]
      refine wpAnyH_take (i := 36) (v := ?_) rfl (by kernel_rfl) (by kernel_rfl) (by kernel_rfl) (fun _ _ _ h => h) (Or.inl ⟨by kernel_rfl, ?hy36⟩) (by assumption) ?_
      case hy36 => (intro wI hSw; (try dsimp only at hSw); go_simp; try with_reducible rfl)
      try simp only [Act.put, lqA, lqB, lqC, lqD, lqE, lqF]
      refine wpAnyH_take (i := 37) (v := ?_) rfl (by kernel_rfl) (by kernel_rfl) (by kernel_rfl) (fun _ _ _ h => h) (Or.inl ⟨by kernel_rfl, ?hy37⟩) (by assumption) ?_
      case hy37 => (intro wI hSw; (try dsimp only at hSw); have m2 := (hSw.cell hl1').trans d2; go_simp; try with_reducible rfl)
      try simp only [Act.put, lqA, lqB, lqC, lqD, lqE, lqF]
      refine wpAnyH_ready (rs := [11, 41]) (by kernel_rfl) (by simp) ?_
      refine AllReadyH.cons rfl (fun K hK => ?_) ?_
      ·go_simp
       go_wp2_with fail
       refine (CSS.out _ hHeld).mono ?_
       rintro e u ⟨rfl, hu⟩
       first | (obtain rfl : W0 = u := hu.symm) | subst hu
       refine hK.out _ _ hHeld (fun _ => ?_)
       clear hK K
       try simp only [Act.put, lqA, lqB, lqC, lqD, lqE, lqF]
       refine wpAnyH_take (i := 12) (v := ?_) rfl (by kernel_rfl) (by kernel_rfl) (by kernel_rfl) (fun _ _ _ h => h) (Or.inl ⟨by kernel_rfl, ?hy12⟩) (by assumption) ?_
       case hy12 => (intro wI hSw; (try dsimp only at hSw); go_simp; try with_reducible rfl)
       try simp only [Act.put, lqA, lqB, lqC, lqD, lqE, lqF]
       refine wpAnyH_take (i := 13) (v := ?_) rfl (by kernel_rfl) (by kernel_rfl) (by kernel_rfl) (fun _ _ _ h => h) (Or.inl ⟨by kernel_rfl, ?hy13⟩) (by assumption) ?_
       case hy13 => (intro wI hSw; (try dsimp only at hSw); go_simp; try with_reducible rfl)
       try simp only [Act.put, lqA, lqB, lqC, lqD, lqE, lqF]
       refine wpAnyH_take (i := 14) (v := ?_) rfl (by kernel_rfl) (by kernel_rfl) (by kernel_rfl) (fun _ _ _ h => h) (Or.inl ⟨by kernel_rfl, ?hy14⟩) (by assumption) ?_
       case hy14 => (intro wI hSw; (try dsimp only at hSw); go_simp; try with_reducible rfl)
       try simp only [Act.put, lqA, lqB, lqC, lqD, lqE, lqF]
       refine wpAnyH_take (i := 15) (v := ?_) rfl (by kernel_rfl) (by kernel_rfl) (by kernel_rfl) (fun _ _ _ h => h) (Or.inl ⟨by kernel_rfl, ?hy15⟩) (by assumption) ?_
       case hy15 => (intro wI hSw; (try dsimp only at hSw); have n1 := (hSw.cell lg).trans gb; go_simp; try with_reducible rfl)
       try simp only [Act.put, lqA, lqB, lqC, lqD, lqE, lqF]
       refine wpAnyH_ready (rs := [26, 41]) (by kernel_rfl) (by simp) ?_
       refine AllReadyH.cons rfl (fun K hK => ?_) ?_
       ·go_simp
        go_wp2_with fail
        refine (CE1.out _).mono ?_
        rintro e u ⟨rfl, hu⟩
        first | (obtain rfl : W0 = u := hu.symm) | subst hu
        refine hK.out _ _ hHeld (fun _ => ?_)
        clear hK K
        try simp only [Act.put, lqA, lqB, lqC, lqD, lqE, lqF]
        refine wpAnyH_take (i := 27) (v := ?_) rfl (by kernel_rfl) (by kernel_rfl) (by kernel_rfl) (fun _ _ _ h => h) (Or.inl ⟨by kernel_rfl, ?hy27⟩) (by assumption) ?_
        case hy27 => (intro wI hSw; (try dsimp only at hSw); go_simp; try with_reducible rfl)
        try simp only [Act.put, lqA, lqB, lqC, lqD, lqE, lqF]
        refine wpAnyH_ready (rs := [38, 41]) (by kernel_rfl) (by simp) ?_
        refine AllReadyH.cons rfl (fun K hK => ?_) ?_
        ·go_simp
         go_wp2_with fail
         refine (CE2.out _).mono ?_
         rintro e u ⟨rfl, hu⟩
         first | (obtain rfl : W0 = u := hu.symm) | subst hu
         refine hK.out _ _ hHeld (fun _ => ?_)
         clear hK K
         try simp only [Act.put, lqA, lqB, lqC, lqD, lqE, lqF]
         refine wpAnyH_take (i := 39) (v := ?_) rfl (by kernel_rfl) (by kernel_rfl) (by kernel_rfl) (fun _ _ _ h => h) (Or.inl ⟨by kernel_rfl, ?hy39⟩) (by assumption) ?_
         case hy39 => (intro wI hSw; (try dsimp only at hSw); go_simp; try with_reducible rfl)
         try simp only [Act.put, lqA, lqB, lqC, lqD, lqE, lqF]
         refine wpAnyH_take (i := 40) (v := ?_) rfl (by kernel_rfl) (by kernel_rfl) (by kernel_rfl) (fun _ _ _ h => h) (Or.inl ⟨by kernel_rfl, ?hy40⟩) (by assumption) ?_
         case hy40 => (intro wI hSw; (try dsimp only at hSw); go_simp; try with_reducible rfl)
         try simp only [Act.put, lqA, lqB, lqC, lqD, lqE, lqF]
         refine wpAnyH_ready (rs := [41]) (by kernel_rfl) (by simp) ?_
         refine AllReadyH.cons rfl (fun K hK => ?_) AllReadyH.nil
         have HB0 := hid hHeld
         have hb1 := bel_new W0 (.cells #[.int .i64 0, .int .i64 0, .int .i64 0, .int .i64 0, .int .i64 0, .int .i64 0] 40)
         have hH2 := Below.on hHeld hb1
         go_simp
         refine hK.out _ _ hH2 (fun _ => ?_)
         clear hK K hHeld hb1
         have hHeld := hH2
         clear hH2
         try simp only [Act.put, lqA, lqB, lqC, lqD, lqE, lqF]
         refine wpAnyH_ready (rs := [42]) (by kernel_rfl) (by simp) ?_
         refine AllReadyH.cons rfl (fun K hK => ?_) AllReadyH.nil
         have bk := bk_new W0 #[.int .i64 0, .int .i64 0, .int .i64 0, .int .i64 0, .int .i64 0, .int .i64 0] 40
         have fz := bk.fz
         have q0 := bk.cell 0
         have q1 := bk.cell 1
         have q2 := bk.cell 2
         have q3 := bk.cell 3
         have q4 := bk.cell 4
         have q5 := bk.cell 5
         have hH2 := Below.on HB0.out (bel_new W0 (.cells #[.int .i64 y0, .int .i64 B, .int .i64 X, .int .i64 Y, .int .i64 0, .int .i64 0] 40))
         go_simp
         refine hK.out _ _ hH2 (fun _ => ?_)
         clear hK K hHeld bk fz q0 q1 q2 q3 q4 q5
         try simp only [Act.put, lqA, lqB, lqC, lqD, lqE, lqF]
         refine wpAnyH_done (by kernel_rfl) ?_ _
         go_wp2_with fail
         go_meet
         exact ⟨by rw [HW0.out], by rw [← HW0.out]; exact bk_new W0 _ _, hH2⟩
        refine AllReadyH.cons rfl (fun K hK => ?_) ?_
        ·have HB0 := hid hHeld
         have hb1 := bel_new W0 (.cells #[.int .i64 0, .int .i64 0, .int .i64 0, .int .i64 0, .int .i64 0, .int .i64 0] 40)
         have hH2 := Below.on hHeld hb1
         go_simp
         refine hK.out _ _ hH2 (fun _ => ?_)
         clear hK K hHeld hb1
         have hHeld := hH2
         clear hH2
         try simp only [Act.put, lqA, lqB, lqC, lqD, lqE, lqF]
         refine wpAnyH_ready (rs := [38]) (by kernel_rfl) (by simp) ?_
         refine AllReadyH.cons rfl (fun K hK => ?_) AllReadyH.nil
         go_simp
         go_wp2_with fail
         refine (CE2.out _).mono ?_
         rintro e u ⟨rfl, hu⟩
         first | (obtain rfl : W0 = u := hu.symm) | subst hu
         refine hK.out _ _ hHeld (fun _ => ?_)
         clear hK K
         try simp only [Act.put, lqA, lqB, lqC, lqD, lqE, lqF]
         refine wpAnyH_take (i := 39) (v := ?_) rfl (by kernel_rfl) (by kernel_rfl) (by kernel_rfl) (fun _ _ _ h => h) (Or.inl ⟨by kernel_rfl, ?hy39⟩) (by assumption) ?_
         case hy39 => (intro wI hSw; (try dsimp only at hSw); go_simp; try with_reducible rfl)
         try simp only [Act.put, lqA, lqB, lqC, lqD, lqE, lqF]
         refine wpAnyH_take (i := 40) (v := ?_) rfl (by kernel_rfl) (by kernel_rfl) (by kernel_rfl) (fun _ _ _ h => h) (Or.inl ⟨by kernel_rfl, ?hy40⟩) (by assumption) ?_
         case hy40 => (intro wI hSw; (try dsimp only at hSw); go_simp; try with_reducible rfl)
         try simp only [Act.put, lqA, lqB, lqC, lqD, lqE, lqF]
         refine wpAnyH_ready (rs := [42]) (by kernel_rfl) (by simp) ?_
         refine AllReadyH.cons rfl (fun K hK => ?_) AllReadyH.nil
         have bk := bk_new W0 #[.int .i64 0, .int .i64 0, .int .i64 0, .int .i64 0, .int .i64 0, .int .i64 0] 40
         have fz := bk.fz
         have q0 := bk.cell 0
         have q1 := bk.cell 1
         have q2 := bk.cell 2
         have q3 := bk.cell 3
         have q4 := bk.cell 4
         have q5 := bk.cell 5
         have hH2 := Below.on HB0.out (bel_new W0 (.cells #[.int .i64 y0, .int .i64 B, .int .i64 X, .int .i64 Y, .int .i64 0, .int .i64 0] 40))
         go_simp
         refine hK.out _ _ hH2 (fun _ => ?_)
         clear hK K hHeld bk fz q0 q1 q2 q3 q4 q5
         try simp only [Act.put, lqA, lqB, lqC, lqD, lqE, lqF]
         refine wpAnyH_done (by kernel_rfl) ?_ _
         go_wp2_with fail
         go_meet
         exact ⟨by rw [HW0.out], by rw [← HW0.out]; exact bk_new W0 _ _, hH2⟩
        exact AllReadyH.nil
       refine AllReadyH.cons rfl (fun K hK => ?_) ?_
       ·have HB0 := hid hHeld
        have hb1 := bel_new W0 (.cells #[.int .i64 0, .int .i64 0, .int .i64 0, .int .i64 0, .int .i64 0, .int .i64 0] 40)
        have hH2 := Below.on hHeld hb1
        go_simp
        refine hK.out _ _ hH2 (fun _ => ?_)
        clear hK K hHeld hb1
        have hHeld := hH2
        clear hH2
        try simp only [Act.put, lqA, lqB, lqC, lqD, lqE, lqF]
        refine wpAnyH_ready (rs := [26]) (by kernel_rfl) (by simp) ?_
        refine AllReadyH.cons rfl (fun K hK => ?_) AllReadyH.nil
        go_simp
        go_wp2_with fail
        refine (CE1.out _).mono ?_
        rintro e u ⟨rfl, hu⟩
        first | (obtain rfl : W0 = u := hu.symm) | subst hu
        refine hK.out _ _ hHeld (fun _ => ?_)
        clear hK K
        try simp only [Act.put, lqA, lqB, lqC, lqD, lqE, lqF]
        refine wpAnyH_take (i := 27) (v := ?_) rfl (by kernel_rfl) (by kernel_rfl) (by kernel_rfl) (fun _ _ _ h => h) (Or.inl ⟨by kernel_rfl, ?hy27⟩) (by assumption) ?_
        case hy27 => (intro wI hSw; (try dsimp only at hSw); go_simp; try with_reducible rfl)
        try simp only [Act.put, lqA, lqB, lqC, lqD, lqE, lqF]
        refine wpAnyH_ready (rs := [38]) (by kernel_rfl) (by simp) ?_
        refine AllReadyH.cons rfl (fun K hK => ?_) AllReadyH.nil
        go_simp
        go_wp2_with fail
        refine (CE2.out _).mono ?_
        rintro e u ⟨rfl, hu⟩
        first | (obtain rfl : W0 = u := hu.symm) | subst hu
        refine hK.out _ _ hHeld (fun _ => ?_)
        clear hK K
        try simp only [Act.put, lqA, lqB, lqC, lqD, lqE, lqF]
        refine wpAnyH_take (i := 39) (v := ?_) rfl (by kernel_rfl) (by kernel_rfl) (by kernel_rfl) (fun _ _ _ h => h) (Or.inl ⟨by kernel_rfl, ?hy39⟩) (by assumption) ?_
        case hy39 => (intro wI hSw; (try dsimp only at hSw); go_simp; try with_reducible rfl)
        try simp only [Act.put, lqA, lqB, lqC, lqD, lqE, lqF]
        refine wpAnyH_take (i := 40) (v := ?_) rfl (by kernel_rfl) (by kernel_rfl) (by kernel_rfl) (fun _ _ _ h => h) (Or.inl ⟨by kernel_rfl, ?hy40⟩) (by assumption) ?_
        case hy40 => (intro wI hSw; (try dsimp only at hSw); go_simp; try with_reducible rfl)
        try simp only [Act.put, lqA, lqB, lqC, lqD, lqE, lqF]
        refine wpAnyH_ready (rs := [42]) (by kernel_rfl) (by simp) ?_
        refine AllReadyH.cons rfl (fun K hK => ?_) AllReadyH.nil
        have bk := bk_new W0 #[.int .i64 0, .int .i64 0, .int .i64 0, .int .i64 0, .int .i64 0, .int .i64 0] 40
        have fz := bk.fz
        have q0 := bk.cell 0
        have q1 := bk.cell 1
        have q2 := bk.cell 2
        have q3 := bk.cell 3
        have q4 := bk.cell 4
        have q5 := bk.cell 5
        have hH2 := Below.on HB0.out (bel_new W0 (.cells #[.int .i64 y0, .int .i64 B, .int .i64 X, .int .i64 Y, .int .i64 0, .int .i64 0] 40))
        go_simp
        refine hK.out _ _ hH2 (fun _ => ?_)
        clear hK K hHeld bk fz q0 q1 q2 q3 q4 q5
        try simp only [Act.put, lqA, lqB, lqC, lqD, lqE, lqF]
        refine wpAnyH_done (by kernel_rfl) ?_ _
        go_wp2_with fail
        go_meet
        exact ⟨by rw [HW0.out], by rw [← HW0.out]; exact bk_new W0 _ _, hH2⟩
       exact AllReadyH.nil
      refine AllReadyH.cons rfl (fun K hK => ?_) ?_
      ·have HB0 := hid hHeld
       have hb1 := bel_new W0 (.cells #[.int .i64 0, .int .i64 0, .int .i64 0, .int .i64 0, .int .i64 0, .int .i64 0] 40)
       have hH2 := Below.on hHeld hb1
       go_simp
       refine hK.out _ _ hH2 (fun _ => ?_)
       clear hK K hHeld hb1
       have hHeld := hH2
       clear hH2
       try simp only [Act.put, lqA, lqB, lqC, lqD, lqE, lqF]
       refine wpAnyH_ready (rs := [11]) (by kernel_rfl) (by simp) ?_
       refine AllReadyH.cons rfl (fun K hK => ?_) AllReadyH.nil
       go_simp
       go_wp2_with fail
       refine (CSS.out _ hHeld).mono ?_
       rintro e u ⟨rfl, hu⟩
       first | (obtain rfl : W0 = u := hu.symm) | subst hu
       refine hK.out _ _ hHeld (fun _ => ?_)
       clear hK K
       try simp only [Act.put, lqA, lqB, lqC, lqD, lqE, lqF]
       refine wpAnyH_take (i := 12) (v := ?_) rfl (by kernel_rfl) (by kernel_rfl) (by kernel_rfl) (fun _ _ _ h => h) (Or.inl ⟨by kernel_rfl, ?hy12⟩) (by assumption) ?_
       case hy12 => (intro wI hSw; (try dsimp only at hSw); go_simp; try with_reducible rfl)
       try simp only [Act.put, lqA, lqB, lqC, lqD, lqE, lqF]
       refine wpAnyH_take (i := 13) (v := ?_) rfl (by kernel_rfl) (by kernel_rfl) (by kernel_rfl) (fun _ _ _ h => h) (Or.inl ⟨by kernel_rfl, ?hy13⟩) (by assumption) ?_
       case hy13 => (intro wI hSw; (try dsimp only at hSw); go_simp; try with_reducible rfl)
       try simp only [Act.put, lqA, lqB, lqC, lqD, lqE, lqF]
       refine wpAnyH_take (i := 14) (v := ?_) rfl (by kernel_rfl) (by kernel_rfl) (by kernel_rfl) (fun _ _ _ h => h) (Or.inl ⟨by kernel_rfl, ?hy14⟩) (by assumption) ?_
       case hy14 => (intro wI hSw; (try dsimp only at hSw); go_simp; try with_reducible rfl)
       try simp only [Act.put, lqA, lqB, lqC, lqD, lqE, lqF]
       refine wpAnyH_take (i := 15) (v := ?_) rfl (by kernel_rfl) (by kernel_rfl) (by kernel_rfl) (fun _ _ _ h => h) (Or.inl ⟨by kernel_rfl, ?hy15⟩) (by assumption) ?_
       case hy15 => (intro wI hSw; (try dsimp only at hSw); have n1 := (hSw.cell lg).trans gb; go_simp; try with_reducible rfl)
       try simp only [Act.put, lqA, lqB, lqC, lqD, lqE, lqF]
       refine wpAnyH_ready (rs := [26]) (by kernel_rfl) (by simp) ?_
       refine AllReadyH.cons rfl (fun K hK => ?_) AllReadyH.nil
       go_simp
       go_wp2_with fail
       refine (CE1.out _).mono ?_
       rintro e u ⟨rfl, hu⟩
       first | (obtain rfl : W0 = u := hu.symm) | subst hu
       refine hK.out _ _ hHeld (fun _ => ?_)
       clear hK K
       try simp only [Act.put, lqA, lqB, lqC, lqD, lqE, lqF]
       refine wpAnyH_take (i := 27) (v := ?_) rfl (by kernel_rfl) (by kernel_rfl) (by kernel_rfl) (fun _ _ _ h => h) (Or.inl ⟨by kernel_rfl, ?hy27⟩) (by assumption) ?_
       case hy27 => (intro wI hSw; (try dsimp only at hSw); go_simp; try with_reducible rfl)
       try simp only [Act.put, lqA, lqB, lqC, lqD, lqE, lqF]
       refine wpAnyH_ready (rs := [38]) (by kernel_rfl) (by simp) ?_
       refine AllReadyH.cons rfl (fun K hK => ?_) AllReadyH.nil
       go_simp
       go_wp2_with fail
       refine (CE2.out _).mono ?_
       rintro e u ⟨rfl, hu⟩
       first | (obtain rfl : W0 = u := hu.symm) | subst hu
       refine hK.out _ _ hHeld (fun _ => ?_)
       clear hK K
       try simp only [Act.put, lqA, lqB, lqC, lqD, lqE, lqF]
       refine wpAnyH_take (i := 39) (v := ?_) rfl (by kernel_rfl) (by kernel_rfl) (by kernel_rfl) (fun _ _ _ h => h) (Or.inl ⟨by kernel_rfl, ?hy39⟩) (by assumption) ?_
       case hy39 => (intro wI hSw; (try dsimp only at hSw); go_simp; try with_reducible rfl)
       try simp only [Act.put, lqA, lqB, lqC, lqD, lqE, lqF]
       refine wpAnyH_take (i := 40) (v := ?_) rfl (by kernel_rfl) (by kernel_rfl) (by kernel_rfl) (fun _ _ _ h => h) (Or.inl ⟨by kernel_rfl, ?hy40⟩) (by assumption) ?_
       case hy40 => (intro wI hSw; (try dsimp only at hSw); go_simp; try with_reducible rfl)
       try simp only [Act.put, lqA, lqB, lqC, lqD, lqE, lqF]
       refine wpAnyH_ready (rs := [42]) (by kernel_rfl) (by simp) ?_
       refine AllReadyH.cons rfl (fun K hK => ?_) AllReadyH.nil
       have bk := bk_new W0 #[.int .i64 0, .int .i64 0, .int .i64 0, .int .i64 0, .int .i64 0, .int .i64 0] 40
       have fz := bk.fz
       have q0 := bk.cell 0
       have q1 := bk.cell 1
       have q2 := bk.cell 2
       have q3 := bk.cell 3
       have q4 := bk.cell 4
       have q5 := bk.cell 5
       have hH2 := Below.on HB0.out (bel_new W0 (.cells #[.int .i64 y0, .int .i64 B, .int .i64 X, .int .i64 Y, .int .i64 0, .int .i64 0] 40))
       go_simp
       refine hK.out _ _ hH2 (fun _ => ?_)
       clear hK K hHeld bk fz q0 q1 q2 q3 q4 q5
       try simp only [Act.put, lqA, lqB, lqC, lqD, lqE, lqF]
       refine wpAnyH_done (by kernel_rfl) ?_ _
       go_wp2_with fail
       go_meet
       exact ⟨by rw [HW0.out], by rw [← HW0.out]; exact bk_new W0 _ _, hH2⟩
      exact AllReadyH.nil
     case rest =>
      obtain ⟨rfl, hbk, hbw⟩ := hcut
      have HBK := hid hbk
      have HBC := hid hbw
      have HGL : wr.heap.size < wc.heap.size := hbk.lt
      clear hbk hbw f0 f1 f2 d0 d1 d2 gb
      go_upto_block 4 with fail
      go_cut [12] (fun _ wd => ∃ r1 r2, szf zs B = [r1, r2] ∧ Bk wd wr.heap.size 40 #[.int .i64 y0, .int .i64 B, .int .i64 X, .int .i64 Y, .int .i64 r1, .int .i64 r2] ∧ RowKit.Below wr.heap.size wr wd)
      case first =>
       go_wp2
       obtain ⟨WX, rfl⟩ : ∃ WX, WX = wr := ⟨_, rfl⟩
       go_loopw [12] (fun i wy => ∃ m : Nat, i = .int .i64 m ∧ m ≤ n' ∧ (∀ (i : Nat) (y : List Int), i < m → zs[i]? = some y → hd y ≠ B) ∧ Bk wy WX.heap.size 40 #[.int .i64 y0, .int .i64 B, .int .i64 X, .int .i64 Y, .int .i64 0, .int .i64 0] ∧ RowKit.Below WX.heap.size WX wy) (fun i _ => n' - (numOf i).toNat)
       case atStart => exact ⟨0, rfl, by omega, (fun i y h => absurd h (by omega)), HBK.out, HBC.out⟩
       case round =>
        obtain ⟨m, rfl, hm, hN, hbk, hbw⟩ := hrel
        have HN := hid hN
        have HBK2 := hid hbk
        have HBC2 := hid hbw
        have q1 := hbk.cell 1
        clear hN hbk
        by_cases hgm : m < n'
        ·have e5 : decide ((m : Int) < n') = true := decide_eq_true (by omega)
         have e6 : (m : Int) < n' := by omega
         obtain ⟨b4, o4, v0, v1, v2, rfl, hl4w, hv, g0, g1, g2⟩ := HZ.out.el3 hgm
         have hbz := Below.on HO3.out.bel hbw
         have hwx := HO3.out.bel.size
         have hl4 : b4 < wr.heap.size := Nat.lt_of_lt_of_le hl4w hbz.size
         rw [← hbz.cell hl4w] at g0 g1 g2
         cases hq : (v0 == B)
         ·have HN2 : Hid (∀ (i : Nat) (y : List Int), i < m + 1 → zs[i]? = some y → hd y ≠ B) := fun i y hi hy => by
           rcases Nat.lt_or_ge i m with h | h
           ·exact HN.out i y h hy
           ·obtain rfl : i = m := by omega
            rw [hv] at hy
            cases hy
            show v0 ≠ B
            simpa using hq
          clear hv hbw hbz
          go_wp2
          go_quiet (fail)
          go_wp2
          go_roundw
          case rel => exact ⟨m + 1, by go_num, by omega, HN2.out, HBK2.out.on (below_drewN (Below.refl _ _) _), below_drewN HBC2.out _⟩
          case measure => simp [numOf]; omega
         ·have HSZ : Hid (szf zs B = [v1, v2]) := szf_some hv (by simpa using hq) HN.out
          clear hv hbz
          go_wp2
          go_quiet (fail)
          go_upto_region 14 with fail
          have hbq : RowKit.Below wr.heap.size wr (wr.drewN nq) := below_drewN (Below.refl _ _) nq
          generalize wr.drewN nq = WQ at *
          have hbd := hbq.drew
          have HC0 : Hid (C3 WQ.drew b4 (o4 + m * 3) v0 v1 v2) := (⟨hl4, g0, g1, g2⟩ : C3 wr b4 (o4 + m * 3) v0 v1 v2).on hbd
          have HBW : Hid (Bk WQ.drew WX.heap.size 40 #[.int .i64 y0, .int .i64 B, .int .i64 X, .int .i64 Y, .int .i64 0, .int .i64 0]) := HBK2.out.on hbd
          have HBX : Hid (Bk (WQ.drew.setCell ⟨WX.heap.size, 4, none⟩ (.int .i64 v1)) WX.heap.size 40 #[.int .i64 y0, .int .i64 B, .int .i64 X, .int .i64 Y, .int .i64 v1, .int .i64 0]) := HBW.out.set 4 (.int .i64 v1)
          have HBY : Hid (Bk ((WQ.drew.setCell ⟨WX.heap.size, 4, none⟩ (.int .i64 v1)).setCell ⟨WX.heap.size, 5, none⟩ (.int .i64 v2)) WX.heap.size 40 #[.int .i64 y0, .int .i64 B, .int .i64 X, .int .i64 Y, .int .i64 v1, .int .i64 v2]) := HBX.out.set 5 (.int .i64 v2)
          have HBE : Hid (RowKit.Below WX.heap.size WX ((WQ.drew.setCell ⟨WX.heap.size, 4, none⟩ (.int .i64 v1)).setCell ⟨WX.heap.size, 5, none⟩ (.int .i64 v2))) := ((Below.on HBC2.out hbd).setCell (p := ⟨WX.heap.size, 4, none⟩) (Nat.le_refl _) _).setCell (p := ⟨WX.heap.size, 5, none⟩) (Nat.le_refl _) _
          clear hbq hbd q1 g0 g1 g2
          refine wp_region_held_drew (S := fun uu => C3 uu b4 (o4 + m * 3) v0 v1 v2) (by kernel_rfl) ?hh (fun hHeld => ?_)
          case hh => exact (HC0.out)
          generalize World.drew _ = W0 at hHeld HBW HBX HBY HBE ⊢
          try dsimp only at hHeld
          refine wpAnyH_take (i := 0) (v := ?_) rfl (by kernel_rfl) (by kernel_rfl) (by kernel_rfl) (fun _ _ _ h => h) (Or.inl ⟨by kernel_rfl, ?hy0⟩) (by assumption) ?_
          case hy0 => (intro wI hSw; (try dsimp only at hSw); go_simp; try with_reducible rfl)
          try simp only [Act.put, lqA, lqB, lqD, lqE, lqF]
          refine wpAnyH_take (i := 1) (v := ?_) rfl (by kernel_rfl) (by kernel_rfl) (by kernel_rfl) (fun _ _ _ h => h) (Or.inl ⟨by kernel_rfl, ?hy1⟩) (by assumption) ?_
          case hy1 => (intro wI hSw; (try dsimp only at hSw); go_simp; try with_reducible rfl)
          try simp only [Act.put, lqA, lqB, lqC, lqD, lqE, lqF]
          refine wpAnyH_take (i := 2) (v := ?_) rfl (by kernel_rfl) (by kernel_rfl) (by kernel_rfl) (fun _ _ _ h => h) (Or.inl ⟨by kernel_rfl, ?hy2⟩) (by assumption) ?_
          case hy2 => (intro wI hSw; (try dsimp only at hSw); go_simp; try with_reducible rfl)
          try simp only [Act.put, lqA, lqB, lqC, lqD, lqE, lqF]
          refine wpAnyH_take (i := 3) (v := ?_) rfl (by kernel_rfl) (by kernel_rfl) (by kernel_rfl) (fun _ _ _ h => h) (Or.inl ⟨by kernel_rfl, ?hy3⟩) (by assumption) ?_
          case hy3 => (intro wI hSw; (try dsimp only at hSw); go_simp; try with_reducible rfl)
          try simp only [Act.put, lqA, lqB, lqC, lqD, lqE, lqF]
          refine wpAnyH_take (i := 4) (v := ?_) rfl (by kernel_rfl) (by kernel_rfl) (by kernel_rfl) (fun _ _ _ h => h) (Or.inl ⟨by kernel_rfl, ?hy4⟩) (by assumption) ?_
          case hy4 => (intro wI hSw; (try dsimp only at hSw); obtain ⟨_, k0, k1, k2⟩ := hSw; go_simp; try with_reducible rfl)
          try simp only [Act.put, lqA, lqB, lqC, lqD, lqE, lqF]
          refine wpAnyH_take (i := 5) (v := ?_) rfl (by kernel_rfl) (by kernel_rfl) (by kernel_rfl) (fun _ _ _ h => h) (Or.inl ⟨by kernel_rfl, ?hy5⟩) (by assumption) ?_
          case hy5 => (intro wI hSw; (try dsimp only at hSw); go_simp; try with_reducible rfl)
          try simp only [Act.put, lqA, lqB, lqC, lqD, lqE, lqF]
          refine wpAnyH_take (i := 6) (v := ?_) rfl (by kernel_rfl) (by kernel_rfl) (by kernel_rfl) (fun _ _ _ h => h) (Or.inl ⟨by kernel_rfl, ?hy6⟩) (by assumption) ?_
          case hy6 => (intro wI hSw; (try dsimp only at hSw); go_simp; try with_reducible rfl)
          try simp only [Act.put, lqA, lqB, lqC, lqD, lqE, lqF]
          refine wpAnyH_take (i := 7) (v := ?_) rfl (by kernel_rfl) (by kernel_rfl) (by kernel_rfl) (fun _ _ _ h => h) (Or.inl ⟨by kernel_rfl, ?hy7⟩) (by assumption) ?_
          case hy7 => (intro wI hSw; (try dsimp only at hSw); go_simp; try with_reducible rfl)
          try simp only [Act.put, lqA, lqB, lqC, lqD, lqE, lqF]
          refine wpAnyH_take (i := 8) (v := ?_) rfl (by kernel_rfl) (by kernel_rfl) (by kernel_rfl) (fun _ _ _ h => h) (Or.inl ⟨by kernel_rfl, ?hy8⟩) (by assumption) ?_
          case hy8 => (intro wI hSw; (try dsimp only at hSw); go_simp; try with_reducible rfl)
          try simp only [Act.put, lqA, lqB, lqC, lqD, lqE, lqF]
          refine wpAnyH_take (i := 9) (v := ?_) rfl (by kernel_rfl) (by kernel_rfl) (by kernel_rfl) (fun _ _ _ h => h) (Or.inl ⟨by kernel_rfl, ?hy9⟩) (by assumption) ?_
          case hy9 => (intro wI hSw; (try dsimp only at hSw); obtain ⟨_, k0, k1, k2⟩ := hSw; go_simp; try with_reducible rfl)
          try simp only [Act.put, lqA, lqB, lqC, lqD, lqE, lqF]
          refine wpAnyH_take (i := 10) (v := ?_) rfl (by kernel_rfl) (by kernel_rfl) (by kernel_rfl) (fun _ _ _ h => h) (Or.inl ⟨by kernel_rfl, ?hy10⟩) (by assumption) ?_
          case hy10 => (intro wI hSw; (try dsimp only at hSw); go_simp; try with_reducible rfl)
          try simp only [Act.put, lqA, lqB, lqC, lqD, lqE, lqF]
          refine wpAnyH_ready (rs := [11]) (by kernel_rfl) (by simp) ?_
          refine AllReadyH.cons rfl (fun K hK => ?_) AllReadyH.nil
          have fz := HBW.out.fz 4
          have q4 := HBW.out.cell 4
          have hS2 := hHeld.kp ((Kp.refl [WX.heap.size] _).set ⟨WX.heap.size, 4, none⟩ (by simp) (.int .i64 v1)) (by simp; omega)
          go_simp
          refine hK.out _ _ hS2 (fun _ => ?_)
          clear hK K fz q4 hHeld
          have hHeld := hS2
          clear hS2
          try simp only [Act.put, lqA, lqB, lqC, lqD, lqE, lqF]
          refine wpAnyH_take (i := 12) (v := ?_) rfl (by kernel_rfl) (by kernel_rfl) (by kernel_rfl) (fun _ _ _ h => h) (Or.inl ⟨by kernel_rfl, ?hy12⟩) (by assumption) ?_
          case hy12 => (intro wI hSw; (try dsimp only at hSw); go_simp; try with_reducible rfl)
          try simp only [Act.put, lqA, lqB, lqC, lqD, lqE, lqF]
          refine wpAnyH_ready (rs := [13]) (by kernel_rfl) (by simp) ?_
          refine AllReadyH.cons rfl (fun K hK => ?_) AllReadyH.nil
          have fz := HBX.out.fz 5
          have q4 := HBX.out.cell 5
          have hS2 := hHeld.kp ((Kp.refl [WX.heap.size] _).set ⟨WX.heap.size, 5, none⟩ (by simp) (.int .i64 v2)) (by simp; omega)
          go_simp
          refine hK.out _ _ hS2 (fun _ => ?_)
          clear hK K fz q4 hHeld
          have hHeld := hS2
          clear hS2
          try simp only [Act.put, lqA, lqB, lqC, lqD, lqE, lqF]
          refine wpAnyH_done (by kernel_rfl) ?_ _
          go_wp2
          go_meet
          exact ⟨v1, v2, HSZ.out, HBY.out, HBE.out⟩
        ·have e5 : decide ((m : Int) < n') = false := decide_eq_false (by omega)
         have e6 : ¬ (m : Int) < n' := by omega
         have HSZ : Hid (szf zs B = [0, 0]) := szf_none fun i y hi hy => HN.out i y (by rw [HLZ.out] at hi; omega) hy
         clear hbw
         go_wp2
         go_meet
         exact ⟨0, 0, HSZ.out, HBK2.out, HBC2.out⟩
      case rest =>
       obtain ⟨r1, r2, hrr, hbk, hbw⟩ := hcut
       have hwc := hbw.size
       have hOd := HO3.out.on hbw
       have hRd := HR3.out.on hbw
       have q0 := hbk.cell 0
       have q1 := hbk.cell 1
       have q2 := hbk.cell 2
       have q3 := hbk.cell 3
       have q4 := hbk.cell 4
       have q5 := hbk.cell 5
       have hbl := bel_new wc (.cells #[.int .i64 y0, .int .i64 B, .int .i64 X, .int .i64 Y, .int .i64 r1, .int .i64 r2] 40)
       have HO4 := hid (hOd.on hbl)
       have HR4 := hid (hRd.on hbl)
       have HS4 := hid ((rdm_lit wc [y0, B, X, Y, r1, r2] rfl 40).src (P := Tryz.prog) (t := 25) (e := 40) Tryz.underlying25)
       have HSQ := hid hrr
       have hws : w.heap.size ≤ (wc.alloc (.cells #[.int .i64 y0, .int .i64 B, .int .i64 X, .int .i64 Y, .int .i64 r1, .int .i64 r2] 40)).heap.size := HO4.out.bel.size
       clear hrr hbk hbw hOd hRd hbl
       go_wp2_with (at_builtin; refine wpList_append_own_at _ rfl (.tmp 99) (.tmp 101) 25 25 rfl w.heap.size 40 i0 (.agg #[.int .i64 0, .int .i64 0, .int .i64 0, .int .i64 0, .int .i64 0, .int .i64 0]) 6 48 Tryz.underlying25 hi hi0 hi1 hi2 rfl _ _ _ rfl HO4.out.own _ _ _ rfl HS4.out (by simp only [maxLen]; omega) (fits48 (by omega) (by decide)) hws ?_; intro v6 w6 o6 g6 p6; obtain ⟨a6, c6, rfl⟩ := own_shp o6; replace g6 : World.grownBy _ w6 (Value.slice a3 P1.length c3).ownBlock := g6; replace p6 : (Value.slice a6 (P1.length + 1) c6).ownBlock = (Value.slice a3 P1.length c3).ownBlock ∨ _ := p6; have HO6 := hid o6; have HG6 := hid g6; have HP6 := hid p6; clear o6 g6 p6)
       go_roundw
       case rel =>
        refine ⟨k + 1, by go_num, by omega, ?_, HR4.out.kp (kp_of_grown HG6.out) (fun x hx _ hm => HA3.out x hx (by simpa using hm)), fun x hx e => ?_⟩
        ·have h1 := HO4.out.grown (k := [[y0, B, X, Y, r1, r2]]) (by simp) HO6.out HG6.out
         rw [map_take1 HYK.out, HXY.out, HSQ.out, ← List.append_assoc, ← HP1.out]
         exact h1
        ·rcases HP6.out with h | h
         ·exact HA3.out x hx (h ▸ e)
         ·rw [h] at e
          cases hx
          simp only [Option.some.injEq, World.size_alloc] at e
          omega
       case measure => simp [numOf]; omega
    ·have e3 : decide ((k : Int) < NL) = false := decide_eq_false (by omega)
     have e4 : ¬ (k : Int) < NL := by omega
     have HPN : Hid (P1 = ofL F zs (rs.take (j + 1))) := by
      rw [Hid, HNX.out, HP1.out, List.take_of_length_le (by rw [← HNL.out]; omega)]
     go_wp2
     go_roundw
     case rel => exact ⟨j + 1, by go_num, by omega, by rw [← HPN.out]; exact HO3.out⟩
     case measure => simp [numOf]; omega
  ·have e1 : decide ((j : Int) < n) = false := decide_eq_false (by omega)
   have e2 : ¬ (j : Int) < n := by omega
   have HPN : Hid (P0 = ofL F zs rs) := by
    rw [Hid, HP0.out, List.take_of_length_le (by rw [HLR.out]; omega)]
   go_wp2
   go_ret
   exact ⟨_, rfl, by rw [← HPN.out]; exact HO.out⟩
end
end Go.Proofs.YtkjempffidndeaaGreatDoor
