/- SeatTops: for every slice of rectangles and every point the call returns true; nothing that was there has turned. -/
import Derived.Test.YtegmolmjoiklpaaSeJ
import Derived.LaidMore
import Derived.Deep.CutBlock
import Derived.Deep.DeepCutAuto
namespace Go.Proofs.Ytegmolmjoiklpaa.seatTops
open Go Go.RowKit

/-- A surface that takes everything. -/
def full (s x y w h : Int) : Ht := ⟨s, x, y, w, h, true, none, 0, 0, []⟩
theorem full_hit (s x y w h a b : Int) : (full s x y w h).hit a b = (decide (x ≤ a) && (decide (a < x + w) && (decide (y ≤ b) && decide (b < y + h)))) := by
  rw [Bool.eq_iff_iff]
  simp only [Ht.hit, Ht.cov, Ht.tks, full, has, emp, wth, Bool.true_or, Bool.and_true, Bool.and_eq_true, Bool.not_eq_true', Bool.or_eq_false_iff, decide_eq_true_eq]
  constructor
  · rintro ⟨⟨⟨h1, h2⟩, h3, h4⟩, h5, h6⟩
    have h3 := of_decide_eq_true h3
    have h4 := of_decide_eq_true h4
    have h5 := of_decide_eq_true h5
    have h6 := of_decide_eq_true h6
    exact ⟨h3, by omega, h5, by omega⟩
  · rintro ⟨h1, h2, h3, h4⟩
    exact ⟨⟨⟨decide_eq_false (by omega), decide_eq_false (by omega)⟩, decide_eq_true h1, decide_eq_true (by omega)⟩, decide_eq_true h3, decide_eq_true (by omega)⟩
theorem rg_full (u : World) {s x y w h : Int} (hs : 0 ≤ s ∧ s ≤ 100) (hx : 0 ≤ x ∧ x ≤ 100) (hy : 0 ≤ y ∧ y ≤ 100) (hw : 0 ≤ w ∧ w ≤ 100) (hh : 0 ≤ h ∧ h ≤ 100) : Rg u (full s x y w h) :=
  ⟨RdM.nil 4 u, (fun x hx => by cases hx), ⟨(by show _ ∧ _; simp only [full]; omega), (by show _ ∧ _; simp only [full]; omega), (by show _ ∧ _; simp only [full]; omega), (by show _ ∧ _; simp only [full]; omega), (by show _ ∧ _; simp only [full]; omega), fun r hr => by cases hr⟩⟩

set_option maxRecDepth 100000 in
set_option maxHeartbeats 4000000 in
theorem walk (a : Option Addr) (n c : Nat) (l : List (List Int)) (x y : Int) (w : World) (h0 : RdN 4 w a n c l) (hx : (Lit.int .i64 x).wf = true) (hy : (Lit.int .i64 y).wf = true) :
    Calls Try.prog 5 #[.slice a n c, .int .i64 x, .int .i64 y] w fun e w' => e = .returned (.bool true) ∧ Below w.heap.size w w' := by
  obtain ⟨i0, hi, hz0, hz1, hz2⟩ := infoSP infoHit
  have hs := (rdm_of_rdn (by omega) h0).small
  have H0 := hid (rdm_of_rdn (by omega) h0)
  have HW := hid h0.wf
  have CPX := hid (place_any x 100 (wf64 hx) (by omega) (by omega))
  have CPY := hid (place_any y 100 (wf64 hy) (by omega) (by omega))
  have hpx : 0 ≤ ((plc x 100 : Nat) : Int) ∧ ((plc x 100 : Nat) : Int) < 100 := by have := plc_lt x 100 (by omega); omega
  have hpy : 0 ≤ ((plc y 100 : Nat) : Int) ∧ ((plc y 100 : Nat) : Int) < 100 := by have := plc_lt y 100 (by omega); omega
  generalize ((plc x 100 : Nat) : Int) = px at CPX hpx
  generalize ((plc y 100 : Nat) : Int) = py at CPY hpy
  clear h0 hx hy
  go_enter Try.func5, Try.ntmps5
  go_wp2_with fail
  refine (CPX.out _).mono ?_
  rintro e u ⟨rfl, rfl⟩
  go_wp2_with fail
  refine (CPY.out _).mono ?_
  rintro e u ⟨rfl, rfl⟩
  clear CPX CPY
  go_upto_block 0 with fail
  go_cut [7, 8, 9, 10, 13] from 22 to 108 (fun v s p q _ wc => ∃ (hs : List Ht) (z0 z1 z2 : Int), s = .int .i64 z0 ∧ p = .int .i64 z1 ∧ q = .int .i64 z2 ∧ OwH u wc v hs ∧ atL hs px py = (z0, z1, z2))
  case first =>
    go_wp2
    go_loopw [7, 8, 9, 10, 13] (fun v s p q i wr => ∃ (j : Nat) (hs : List Ht) (z0 z1 z2 : Int), i = .int .i64 j ∧ s = .int .i64 z0 ∧ p = .int .i64 z1 ∧ q = .int .i64 z2 ∧ j ≤ n ∧ j ≤ 12 ∧ hs.length = j ∧ OwH u wr v hs ∧ atL hs px py = (z0, z1, z2)) (fun _ _ _ _ i _ => n - (numOf i).toNat)
    case atStart => exact ⟨0, [], 0, 0, 0, rfl, rfl, rfl, rfl, by omega, by omega, rfl, OwH.nil u, rfl⟩
    case round =>
      obtain ⟨j, hl, z0, z1, z2, rfl, rfl, rfl, rfl, hj, hj12, hlen, hO, hat⟩ := hrel
      have HO := hid hO
      have HA := hid hat
      have HLN := hid hlen
      clear hO hat hlen
      by_cases hgo : j < n ∧ j < 12
      · obtain ⟨hgo1, hgo2⟩ := hgo
        have e1 : decide ((j : Int) < (n : Int)) = true := decide_eq_true (by omega)
        have e2 : decide ((j : Int) < 12) = true := decide_eq_true (by omega)
        have e3 : (j : Int) < (n : Int) := by omega
        obtain ⟨b, off, y0, y1, y2, y3, rfl, hb, hr, c0, c1, c2, c3⟩ := (H0.out.on HO.out.bel).el4 hgo1
        have hm := List.mem_of_getElem? hr
        have CX := hid (place_any y0 100 (wf64 (HW.out _ hm y0 (by simp))) (by omega) (by omega))
        have CY := hid (place_any y1 100 (wf64 (HW.out _ hm y1 (by simp))) (by omega) (by omega))
        have CW := hid (place_any y2 60 (wf64 (HW.out _ hm y2 (by simp))) (by omega) (by omega))
        have CH := hid (place_any y3 60 (wf64 (HW.out _ hm y3 (by simp))) (by omega) (by omega))
        have hzx : 0 ≤ ((plc y0 100 : Nat) : Int) ∧ ((plc y0 100 : Nat) : Int) < 100 := by have := plc_lt y0 100 (by omega); omega
        have hzy : 0 ≤ ((plc y1 100 : Nat) : Int) ∧ ((plc y1 100 : Nat) : Int) < 100 := by have := plc_lt y1 100 (by omega); omega
        have hzw : 0 ≤ ((plc y2 60 : Nat) : Int) ∧ ((plc y2 60 : Nat) : Int) < 60 := by have := plc_lt y2 60 (by omega); omega
        have hzh : 0 ≤ ((plc y3 60 : Nat) : Int) ∧ ((plc y3 60 : Nat) : Int) < 60 := by have := plc_lt y3 60 (by omega); omega
        generalize ((plc y0 100 : Nat) : Int) = zx at CX hzx
        generalize ((plc y1 100 : Nat) : Int) = zy at CY hzy
        generalize ((plc y2 60 : Nat) : Int) = zw at CW hzw
        generalize ((plc y3 60 : Nat) : Int) = zh at CH hzh
        have HC : Hid (∀ v : World, RowKit.Below wr.heap.size wr v → v.cell? ⟨b, off + j * 4, none⟩ = some (.int .i64 y0) ∧ v.cell? ⟨b, off + j * 4 + 1, none⟩ = some (.int .i64 y1) ∧ v.cell? ⟨b, off + j * 4 + 2, none⟩ = some (.int .i64 y2) ∧ v.cell? ⟨b, off + j * 4 + 3, none⟩ = some (.int .i64 y3)) := fun v hv =>
          ⟨by rw [hv.cell hb]; exact c0, by rw [hv.cell hb]; exact c1, by rw [hv.cell hb]; exact c2, by rw [hv.cell hb]; exact c3⟩
        clear hr hm c0 c1 c2 c3
        go_upto_region 7 with fail
        go_cut [14] from 22 to 108 (fun v wx => v = .pointer (some ⟨wr.heap.size, 0, none⟩) ∧ Bx wx wr.heap.size ⟨zx, zy, zw, zh⟩ ∧ RowKit.Below wr.heap.size wr wx)
        case first =>
          have hs0 : wr.drew.heap.size = wr.heap.size := rfl
          refine wp_region_held_drew (S := RowKit.Below wr.heap.size wr) (by kernel_rfl) ?hh (fun hHeld => ?_)
          case hh => exact ((Below.refl _ _).drew)
          generalize wr.drew = W0 at hHeld hs0 ⊢
          try dsimp only at hHeld
          refine wpAnyH_take (i := 0) (v := ?_) rfl (by kernel_rfl) (by kernel_rfl) (by kernel_rfl) (fun _ _ _ h => h) (Or.inl ⟨by kernel_rfl, ?hy0⟩) (by assumption) ?_
          case hy0 => (intro wI hSw; (try dsimp only at hSw); obtain ⟨t0, t1, t2, t3⟩ := HC.out _ hSw; go_simp; try with_reducible rfl)
          try simp only [Act.put, List.getElem_toArray, List.getElem_cons_zero, List.setIfInBounds_toArray, List.set_cons_zero, List.set_cons_succ]
          refine wpAnyH_take (i := 1) (v := ?_) rfl (by kernel_rfl) (by kernel_rfl) (by kernel_rfl) (fun _ _ _ h => h) (Or.inl ⟨by kernel_rfl, ?hy1⟩) (by assumption) ?_
          case hy1 => (intro wI hSw; (try dsimp only at hSw); obtain ⟨t0, t1, t2, t3⟩ := HC.out _ hSw; go_simp; try with_reducible rfl)
          try simp only [Act.put, List.getElem_toArray, List.getElem_cons_zero, List.getElem_cons_succ, List.setIfInBounds_toArray, List.set_cons_zero, List.set_cons_succ]
          refine wpAnyH_take (i := 2) (v := ?_) rfl (by kernel_rfl) (by kernel_rfl) (by kernel_rfl) (fun _ _ _ h => h) (Or.inl ⟨by kernel_rfl, ?hy2⟩) (by assumption) ?_
          case hy2 => (intro wI hSw; (try dsimp only at hSw); obtain ⟨t0, t1, t2, t3⟩ := HC.out _ hSw; go_simp; try with_reducible rfl)
          try simp only [Act.put, List.getElem_toArray, List.getElem_cons_zero, List.getElem_cons_succ, List.setIfInBounds_toArray, List.set_cons_zero, List.set_cons_succ]
          refine wpAnyH_take (i := 3) (v := ?_) rfl (by kernel_rfl) (by kernel_rfl) (by kernel_rfl) (fun _ _ _ h => h) (Or.inl ⟨by kernel_rfl, ?hy3⟩) (by assumption) ?_
          case hy3 => (intro wI hSw; (try dsimp only at hSw); obtain ⟨t0, t1, t2, t3⟩ := HC.out _ hSw; go_simp; try with_reducible rfl)
          try simp only [Act.put, List.getElem_toArray, List.getElem_cons_zero, List.getElem_cons_succ, List.setIfInBounds_toArray, List.set_cons_zero, List.set_cons_succ]
          refine wpAnyH_take (i := 4) (v := ?_) rfl (by kernel_rfl) (by kernel_rfl) (by kernel_rfl) (fun _ _ _ h => h) (Or.inl ⟨by kernel_rfl, ?hy4⟩) (by assumption) ?_
          case hy4 => (intro wI hSw; (try dsimp only at hSw); obtain ⟨t0, t1, t2, t3⟩ := HC.out _ hSw; go_simp; try with_reducible rfl)
          try simp only [Act.put, List.getElem_toArray, List.getElem_cons_zero, List.getElem_cons_succ, List.setIfInBounds_toArray, List.set_cons_zero, List.set_cons_succ]
          refine wpAnyH_take (i := 6) (v := ?_) rfl (by kernel_rfl) (by kernel_rfl) (by kernel_rfl) (fun _ _ _ h => h) (Or.inl ⟨by kernel_rfl, ?hy6⟩) (by assumption) ?_
          case hy6 => (intro wI hSw; (try dsimp only at hSw); obtain ⟨t0, t1, t2, t3⟩ := HC.out _ hSw; go_simp; try with_reducible rfl)
          try simp only [Act.put, List.getElem_toArray, List.getElem_cons_zero, List.getElem_cons_succ, List.setIfInBounds_toArray, List.set_cons_zero, List.set_cons_succ]
          refine wpAnyH_take (i := 7) (v := ?_) rfl (by kernel_rfl) (by kernel_rfl) (by kernel_rfl) (fun _ _ _ h => h) (Or.inl ⟨by kernel_rfl, ?hy7⟩) (by assumption) ?_
          case hy7 => (intro wI hSw; (try dsimp only at hSw); obtain ⟨t0, t1, t2, t3⟩ := HC.out _ hSw; go_simp; try with_reducible rfl)
          try simp only [Act.put, List.getElem_toArray, List.getElem_cons_zero, List.getElem_cons_succ, List.setIfInBounds_toArray, List.set_cons_zero, List.set_cons_succ]
          refine wpAnyH_take (i := 8) (v := ?_) rfl (by kernel_rfl) (by kernel_rfl) (by kernel_rfl) (fun _ _ _ h => h) (Or.inl ⟨by kernel_rfl, ?hy8⟩) (by assumption) ?_
          case hy8 => (intro wI hSw; (try dsimp only at hSw); obtain ⟨t0, t1, t2, t3⟩ := HC.out _ hSw; go_simp; try with_reducible rfl)
          try simp only [Act.put, List.getElem_toArray, List.getElem_cons_zero, List.getElem_cons_succ, List.setIfInBounds_toArray, List.set_cons_zero, List.set_cons_succ]
          refine wpAnyH_take (i := 9) (v := ?_) rfl (by kernel_rfl) (by kernel_rfl) (by kernel_rfl) (fun _ _ _ h => h) (Or.inl ⟨by kernel_rfl, ?hy9⟩) (by assumption) ?_
          case hy9 => (intro wI hSw; (try dsimp only at hSw); obtain ⟨t0, t1, t2, t3⟩ := HC.out _ hSw; go_simp; try with_reducible rfl)
          try simp only [Act.put, List.getElem_toArray, List.getElem_cons_zero, List.getElem_cons_succ, List.setIfInBounds_toArray, List.set_cons_zero, List.set_cons_succ]
          refine wpAnyH_take (i := 10) (v := ?_) rfl (by kernel_rfl) (by kernel_rfl) (by kernel_rfl) (fun _ _ _ h => h) (Or.inl ⟨by kernel_rfl, ?hy10⟩) (by assumption) ?_
          case hy10 => (intro wI hSw; (try dsimp only at hSw); obtain ⟨t0, t1, t2, t3⟩ := HC.out _ hSw; go_simp; try with_reducible rfl)
          try simp only [Act.put, List.getElem_toArray, List.getElem_cons_zero, List.getElem_cons_succ, List.setIfInBounds_toArray, List.set_cons_zero, List.set_cons_succ]
          refine wpAnyH_take (i := 12) (v := ?_) rfl (by kernel_rfl) (by kernel_rfl) (by kernel_rfl) (fun _ _ _ h => h) (Or.inl ⟨by kernel_rfl, ?hy12⟩) (by assumption) ?_
          case hy12 => (intro wI hSw; (try dsimp only at hSw); obtain ⟨t0, t1, t2, t3⟩ := HC.out _ hSw; go_simp; try with_reducible rfl)
          try simp only [Act.put, List.getElem_toArray, List.getElem_cons_zero, List.getElem_cons_succ, List.setIfInBounds_toArray, List.set_cons_zero, List.set_cons_succ]
          refine wpAnyH_take (i := 13) (v := ?_) rfl (by kernel_rfl) (by kernel_rfl) (by kernel_rfl) (fun _ _ _ h => h) (Or.inl ⟨by kernel_rfl, ?hy13⟩) (by assumption) ?_
          case hy13 => (intro wI hSw; (try dsimp only at hSw); obtain ⟨t0, t1, t2, t3⟩ := HC.out _ hSw; go_simp; try with_reducible rfl)
          try simp only [Act.put, List.getElem_toArray, List.getElem_cons_zero, List.getElem_cons_succ, List.setIfInBounds_toArray, List.set_cons_zero, List.set_cons_succ]
          refine wpAnyH_take (i := 14) (v := ?_) rfl (by kernel_rfl) (by kernel_rfl) (by kernel_rfl) (fun _ _ _ h => h) (Or.inl ⟨by kernel_rfl, ?hy14⟩) (by assumption) ?_
          case hy14 => (intro wI hSw; (try dsimp only at hSw); obtain ⟨t0, t1, t2, t3⟩ := HC.out _ hSw; go_simp; try with_reducible rfl)
          try simp only [Act.put, List.getElem_toArray, List.getElem_cons_zero, List.getElem_cons_succ, List.setIfInBounds_toArray, List.set_cons_zero, List.set_cons_succ]
          refine wpAnyH_take (i := 15) (v := ?_) rfl (by kernel_rfl) (by kernel_rfl) (by kernel_rfl) (fun _ _ _ h => h) (Or.inl ⟨by kernel_rfl, ?hy15⟩) (by assumption) ?_
          case hy15 => (intro wI hSw; (try dsimp only at hSw); obtain ⟨t0, t1, t2, t3⟩ := HC.out _ hSw; go_simp; try with_reducible rfl)
          try simp only [Act.put, List.getElem_toArray, List.getElem_cons_zero, List.getElem_cons_succ, List.setIfInBounds_toArray, List.set_cons_zero, List.set_cons_succ]
          refine wpAnyH_take (i := 16) (v := ?_) rfl (by kernel_rfl) (by kernel_rfl) (by kernel_rfl) (fun _ _ _ h => h) (Or.inl ⟨by kernel_rfl, ?hy16⟩) (by assumption) ?_
          case hy16 => (intro wI hSw; (try dsimp only at hSw); obtain ⟨t0, t1, t2, t3⟩ := HC.out _ hSw; go_simp; try with_reducible rfl)
          try simp only [Act.put, List.getElem_toArray, List.getElem_cons_zero, List.getElem_cons_succ, List.setIfInBounds_toArray, List.set_cons_zero, List.set_cons_succ]
          refine wpAnyH_take (i := 18) (v := ?_) rfl (by kernel_rfl) (by kernel_rfl) (by kernel_rfl) (fun _ _ _ h => h) (Or.inl ⟨by kernel_rfl, ?hy18⟩) (by assumption) ?_
          case hy18 => (intro wI hSw; (try dsimp only at hSw); obtain ⟨t0, t1, t2, t3⟩ := HC.out _ hSw; go_simp; try with_reducible rfl)
          try simp only [Act.put, List.getElem_toArray, List.getElem_cons_zero, List.getElem_cons_succ, List.setIfInBounds_toArray, List.set_cons_zero, List.set_cons_succ]
          refine wpAnyH_take (i := 19) (v := ?_) rfl (by kernel_rfl) (by kernel_rfl) (by kernel_rfl) (fun _ _ _ h => h) (Or.inl ⟨by kernel_rfl, ?hy19⟩) (by assumption) ?_
          case hy19 => (intro wI hSw; (try dsimp only at hSw); obtain ⟨t0, t1, t2, t3⟩ := HC.out _ hSw; go_simp; try with_reducible rfl)
          try simp only [Act.put, List.getElem_toArray, List.getElem_cons_zero, List.getElem_cons_succ, List.setIfInBounds_toArray, List.set_cons_zero, List.set_cons_succ]
          refine wpAnyH_take (i := 20) (v := ?_) rfl (by kernel_rfl) (by kernel_rfl) (by kernel_rfl) (fun _ _ _ h => h) (Or.inl ⟨by kernel_rfl, ?hy20⟩) (by assumption) ?_
          case hy20 => (intro wI hSw; (try dsimp only at hSw); obtain ⟨t0, t1, t2, t3⟩ := HC.out _ hSw; go_simp; try with_reducible rfl)
          try simp only [Act.put, List.getElem_toArray, List.getElem_cons_zero, List.getElem_cons_succ, List.setIfInBounds_toArray, List.set_cons_zero, List.set_cons_succ]
          refine wpAnyH_take (i := 21) (v := ?_) rfl (by kernel_rfl) (by kernel_rfl) (by kernel_rfl) (fun _ _ _ h => h) (Or.inl ⟨by kernel_rfl, ?hy21⟩) (by assumption) ?_
          case hy21 => (intro wI hSw; (try dsimp only at hSw); obtain ⟨t0, t1, t2, t3⟩ := HC.out _ hSw; go_simp; try with_reducible rfl)
          try simp only [Act.put, List.getElem_toArray, List.getElem_cons_zero, List.getElem_cons_succ, List.setIfInBounds_toArray, List.set_cons_zero, List.set_cons_succ]
          refine wpAnyH_take (i := 22) (v := ?_) rfl (by kernel_rfl) (by kernel_rfl) (by kernel_rfl) (fun _ _ _ h => h) (Or.inl ⟨by kernel_rfl, ?hy22⟩) (by assumption) ?_
          case hy22 => (intro wI hSw; (try dsimp only at hSw); obtain ⟨t0, t1, t2, t3⟩ := HC.out _ hSw; go_simp; try with_reducible rfl)
          try simp only [Act.put, List.getElem_toArray, List.getElem_cons_zero, List.getElem_cons_succ, List.setIfInBounds_toArray, List.set_cons_zero, List.set_cons_succ]
          refine wpAnyH_ready (rs := [5, 25]) (by kernel_rfl) (by simp) ?_
          refine AllReadyH.cons rfl (fun K hK => ?_) ?_
          · go_simp
            go_wp2_with fail
            refine (CX.out W0).mono ?_
            rintro e W5 ⟨rfl, rfl⟩
            refine hK.out _ _ hHeld (fun _ => ?_)
            clear hK K
            try simp only [Act.put, List.getElem_toArray, List.getElem_cons_zero, List.getElem_cons_succ, List.setIfInBounds_toArray, List.set_cons_zero, List.set_cons_succ]
            refine wpAnyH_ready (rs := [11, 25]) (by kernel_rfl) (by simp) ?_
            refine AllReadyH.cons rfl (fun K hK => ?_) ?_
            · go_simp
              go_wp2_with fail
              refine (CY.out W5).mono ?_
              rintro e W11 ⟨rfl, rfl⟩
              refine hK.out _ _ hHeld (fun _ => ?_)
              clear hK K
              try simp only [Act.put, List.getElem_toArray, List.getElem_cons_zero, List.getElem_cons_succ, List.setIfInBounds_toArray, List.set_cons_zero, List.set_cons_succ]
              refine wpAnyH_ready (rs := [17, 25]) (by kernel_rfl) (by simp) ?_
              refine AllReadyH.cons rfl (fun K hK => ?_) ?_
              · go_simp
                go_wp2_with fail
                refine (CW.out W11).mono ?_
                rintro e W17 ⟨rfl, rfl⟩
                refine hK.out _ _ hHeld (fun _ => ?_)
                clear hK K
                try simp only [Act.put, List.getElem_toArray, List.getElem_cons_zero, List.getElem_cons_succ, List.setIfInBounds_toArray, List.set_cons_zero, List.set_cons_succ]
                refine wpAnyH_ready (rs := [23, 25]) (by kernel_rfl) (by simp) ?_
                refine AllReadyH.cons rfl (fun K hK => ?_) ?_
                · go_simp
                  go_wp2_with fail
                  refine (CH.out W17).mono ?_
                  rintro e W23 ⟨rfl, rfl⟩
                  refine hK.out _ _ hHeld (fun _ => ?_)
                  clear hK K
                  try simp only [Act.put, List.getElem_toArray, List.getElem_cons_zero, List.getElem_cons_succ, List.setIfInBounds_toArray, List.set_cons_zero, List.set_cons_succ]
                  refine wpAnyH_take (i := 24) (v := ?_) rfl (by kernel_rfl) (by kernel_rfl) (by kernel_rfl) (fun _ _ _ h => h) (Or.inl ⟨by kernel_rfl, ?hy24⟩) (by assumption) ?_
                  case hy24 => (intro wI hSw; (try dsimp only at hSw); obtain ⟨t0, t1, t2, t3⟩ := HC.out _ hSw; go_simp; try with_reducible rfl)
                  try simp only [Act.put, List.getElem_toArray, List.getElem_cons_zero, List.getElem_cons_succ, List.setIfInBounds_toArray, List.set_cons_zero, List.set_cons_succ]
                  refine wpAnyH_ready (rs := [25]) (by kernel_rfl) (by simp) ?_
                  refine AllReadyH.cons rfl (fun K hK => ?_) AllReadyH.nil
                  have hB2 := bx_new W23 rz
                  have hH2 := Below.on hHeld (bel_nw W23 (.cells #[.int .i64 rz.x, .int .i64 rz.y, .int .i64 rz.w, .int .i64 rz.h] 59))
                  simp only [rz] at hB2 hH2
                  go_simp
                  refine hK.out _ _ hH2 (fun _ => ?_)
                  rw [hs0] at hB2
                  try simp only [hs0]
                  clear hK K hHeld hs0
                  generalize W23.alloc (.cells #[.int .i64 0, .int .i64 0, .int .i64 0, .int .i64 0] 59) = W25 at hB2 hH2 ⊢
                  have hHeld := hH2
                  have hB := hB2
                  clear hH2 hB2
                  try simp only [Act.put, List.getElem_toArray, List.getElem_cons_zero, List.getElem_cons_succ, List.setIfInBounds_toArray, List.set_cons_zero, List.set_cons_succ]
                  refine wpAnyH_ready (rs := [26]) (by kernel_rfl) (by simp) ?_
                  refine AllReadyH.cons rfl (fun K hK => ?_) AllReadyH.nil
                  obtain ⟨k0, k1, k2, k3⟩ := hB.all
                  have f0 := hB.fz 0
                  have f1 := hB.fz 1
                  have f2 := hB.fz 2
                  have f3 := hB.fz 3
                  have hlB := hB.lt
                  have hB2 := hB.st ⟨(zx : Int), (zy : Int), (zw : Int), (zh : Int)⟩
                  have hH2 := below_st hHeld (Nat.le_refl _) ⟨(zx : Int), (zy : Int), (zw : Int), (zh : Int)⟩
                  go_simp
                  refine hK.out _ _ hH2 (fun _ => ?_)
                  clear hK K hHeld hB k0 k1 k2 k3 f0 f1 f2 f3 hlB
                  have hHeld := hH2
                  have hB := hB2
                  clear hH2 hB2
                  try simp only [Act.put, List.getElem_toArray, List.getElem_cons_zero, List.getElem_cons_succ, List.setIfInBounds_toArray, List.set_cons_zero, List.set_cons_succ]
                  refine wpAnyH_done (by kernel_rfl) ?_ _
                  go_wp2_with fail
                  go_meet
                  exact ⟨rfl, hB, hHeld⟩
                refine AllReadyH.cons rfl (fun K hK => ?_) ?_
                · have hB2 := bx_new W17 rz
                  have hH2 := Below.on hHeld (bel_nw W17 (.cells #[.int .i64 rz.x, .int .i64 rz.y, .int .i64 rz.w, .int .i64 rz.h] 59))
                  simp only [rz] at hB2 hH2
                  go_simp
                  refine hK.out _ _ hH2 (fun _ => ?_)
                  rw [hs0] at hB2
                  try simp only [hs0]
                  clear hK K hHeld hs0
                  generalize W17.alloc (.cells #[.int .i64 0, .int .i64 0, .int .i64 0, .int .i64 0] 59) = W25 at hB2 hH2 ⊢
                  have hHeld := hH2
                  have hB := hB2
                  clear hH2 hB2
                  try simp only [Act.put, List.getElem_toArray, List.getElem_cons_zero, List.getElem_cons_succ, List.setIfInBounds_toArray, List.set_cons_zero, List.set_cons_succ]
                  refine wpAnyH_ready (rs := [23]) (by kernel_rfl) (by simp) ?_
                  refine AllReadyH.cons rfl (fun K hK => ?_) AllReadyH.nil
                  go_simp
                  go_wp2_with fail
                  refine (CH.out W25).mono ?_
                  rintro e W23 ⟨rfl, rfl⟩
                  refine hK.out _ _ hHeld (fun _ => ?_)
                  clear hK K
                  try simp only [Act.put, List.getElem_toArray, List.getElem_cons_zero, List.getElem_cons_succ, List.setIfInBounds_toArray, List.set_cons_zero, List.set_cons_succ]
                  refine wpAnyH_take (i := 24) (v := ?_) rfl (by kernel_rfl) (by kernel_rfl) (by kernel_rfl) (fun _ _ _ h => h) (Or.inl ⟨by kernel_rfl, ?hy24⟩) (by assumption) ?_
                  case hy24 => (intro wI hSw; (try dsimp only at hSw); obtain ⟨t0, t1, t2, t3⟩ := HC.out _ hSw; go_simp; try with_reducible rfl)
                  try simp only [Act.put, List.getElem_toArray, List.getElem_cons_zero, List.getElem_cons_succ, List.setIfInBounds_toArray, List.set_cons_zero, List.set_cons_succ]
                  refine wpAnyH_ready (rs := [26]) (by kernel_rfl) (by simp) ?_
                  refine AllReadyH.cons rfl (fun K hK => ?_) AllReadyH.nil
                  obtain ⟨k0, k1, k2, k3⟩ := hB.all
                  have f0 := hB.fz 0
                  have f1 := hB.fz 1
                  have f2 := hB.fz 2
                  have f3 := hB.fz 3
                  have hlB := hB.lt
                  have hB2 := hB.st ⟨(zx : Int), (zy : Int), (zw : Int), (zh : Int)⟩
                  have hH2 := below_st hHeld (Nat.le_refl _) ⟨(zx : Int), (zy : Int), (zw : Int), (zh : Int)⟩
                  go_simp
                  refine hK.out _ _ hH2 (fun _ => ?_)
                  clear hK K hHeld hB k0 k1 k2 k3 f0 f1 f2 f3 hlB
                  have hHeld := hH2
                  have hB := hB2
                  clear hH2 hB2
                  try simp only [Act.put, List.getElem_toArray, List.getElem_cons_zero, List.getElem_cons_succ, List.setIfInBounds_toArray, List.set_cons_zero, List.set_cons_succ]
                  refine wpAnyH_done (by kernel_rfl) ?_ _
                  go_wp2_with fail
                  go_meet
                  exact ⟨rfl, hB, hHeld⟩
                exact AllReadyH.nil
              refine AllReadyH.cons rfl (fun K hK => ?_) ?_
              · have hB2 := bx_new W11 rz
                have hH2 := Below.on hHeld (bel_nw W11 (.cells #[.int .i64 rz.x, .int .i64 rz.y, .int .i64 rz.w, .int .i64 rz.h] 59))
                simp only [rz] at hB2 hH2
                go_simp
                refine hK.out _ _ hH2 (fun _ => ?_)
                rw [hs0] at hB2
                try simp only [hs0]
                clear hK K hHeld hs0
                generalize W11.alloc (.cells #[.int .i64 0, .int .i64 0, .int .i64 0, .int .i64 0] 59) = W25 at hB2 hH2 ⊢
                have hHeld := hH2
                have hB := hB2
                clear hH2 hB2
                try simp only [Act.put, List.getElem_toArray, List.getElem_cons_zero, List.getElem_cons_succ, List.setIfInBounds_toArray, List.set_cons_zero, List.set_cons_succ]
                refine wpAnyH_ready (rs := [17]) (by kernel_rfl) (by simp) ?_
                refine AllReadyH.cons rfl (fun K hK => ?_) AllReadyH.nil
                go_simp
                go_wp2_with fail
                refine (CW.out W25).mono ?_
                rintro e W17 ⟨rfl, rfl⟩
                refine hK.out _ _ hHeld (fun _ => ?_)
                clear hK K
                try simp only [Act.put, List.getElem_toArray, List.getElem_cons_zero, List.getElem_cons_succ, List.setIfInBounds_toArray, List.set_cons_zero, List.set_cons_succ]
                refine wpAnyH_ready (rs := [23]) (by kernel_rfl) (by simp) ?_
                refine AllReadyH.cons rfl (fun K hK => ?_) AllReadyH.nil
                go_simp
                go_wp2_with fail
                refine (CH.out W17).mono ?_
                rintro e W23 ⟨rfl, rfl⟩
                refine hK.out _ _ hHeld (fun _ => ?_)
                clear hK K
                try simp only [Act.put, List.getElem_toArray, List.getElem_cons_zero, List.getElem_cons_succ, List.setIfInBounds_toArray, List.set_cons_zero, List.set_cons_succ]
                refine wpAnyH_take (i := 24) (v := ?_) rfl (by kernel_rfl) (by kernel_rfl) (by kernel_rfl) (fun _ _ _ h => h) (Or.inl ⟨by kernel_rfl, ?hy24⟩) (by assumption) ?_
                case hy24 => (intro wI hSw; (try dsimp only at hSw); obtain ⟨t0, t1, t2, t3⟩ := HC.out _ hSw; go_simp; try with_reducible rfl)
                try simp only [Act.put, List.getElem_toArray, List.getElem_cons_zero, List.getElem_cons_succ, List.setIfInBounds_toArray, List.set_cons_zero, List.set_cons_succ]
                refine wpAnyH_ready (rs := [26]) (by kernel_rfl) (by simp) ?_
                refine AllReadyH.cons rfl (fun K hK => ?_) AllReadyH.nil
                obtain ⟨k0, k1, k2, k3⟩ := hB.all
                have f0 := hB.fz 0
                have f1 := hB.fz 1
                have f2 := hB.fz 2
                have f3 := hB.fz 3
                have hlB := hB.lt
                have hB2 := hB.st ⟨(zx : Int), (zy : Int), (zw : Int), (zh : Int)⟩
                have hH2 := below_st hHeld (Nat.le_refl _) ⟨(zx : Int), (zy : Int), (zw : Int), (zh : Int)⟩
                go_simp
                refine hK.out _ _ hH2 (fun _ => ?_)
                clear hK K hHeld hB k0 k1 k2 k3 f0 f1 f2 f3 hlB
                have hHeld := hH2
                have hB := hB2
                clear hH2 hB2
                try simp only [Act.put, List.getElem_toArray, List.getElem_cons_zero, List.getElem_cons_succ, List.setIfInBounds_toArray, List.set_cons_zero, List.set_cons_succ]
                refine wpAnyH_done (by kernel_rfl) ?_ _
                go_wp2_with fail
                go_meet
                exact ⟨rfl, hB, hHeld⟩
              exact AllReadyH.nil
            refine AllReadyH.cons rfl (fun K hK => ?_) ?_
            · have hB2 := bx_new W5 rz
              have hH2 := Below.on hHeld (bel_nw W5 (.cells #[.int .i64 rz.x, .int .i64 rz.y, .int .i64 rz.w, .int .i64 rz.h] 59))
              simp only [rz] at hB2 hH2
              go_simp
              refine hK.out _ _ hH2 (fun _ => ?_)
              rw [hs0] at hB2
              try simp only [hs0]
              clear hK K hHeld hs0
              generalize W5.alloc (.cells #[.int .i64 0, .int .i64 0, .int .i64 0, .int .i64 0] 59) = W25 at hB2 hH2 ⊢
              have hHeld := hH2
              have hB := hB2
              clear hH2 hB2
              try simp only [Act.put, List.getElem_toArray, List.getElem_cons_zero, List.getElem_cons_succ, List.setIfInBounds_toArray, List.set_cons_zero, List.set_cons_succ]
              refine wpAnyH_ready (rs := [11]) (by kernel_rfl) (by simp) ?_
              refine AllReadyH.cons rfl (fun K hK => ?_) AllReadyH.nil
              go_simp
              go_wp2_with fail
              refine (CY.out W25).mono ?_
              rintro e W11 ⟨rfl, rfl⟩
              refine hK.out _ _ hHeld (fun _ => ?_)
              clear hK K
              try simp only [Act.put, List.getElem_toArray, List.getElem_cons_zero, List.getElem_cons_succ, List.setIfInBounds_toArray, List.set_cons_zero, List.set_cons_succ]
              refine wpAnyH_ready (rs := [17]) (by kernel_rfl) (by simp) ?_
              refine AllReadyH.cons rfl (fun K hK => ?_) AllReadyH.nil
              go_simp
              go_wp2_with fail
              refine (CW.out W11).mono ?_
              rintro e W17 ⟨rfl, rfl⟩
              refine hK.out _ _ hHeld (fun _ => ?_)
              clear hK K
              try simp only [Act.put, List.getElem_toArray, List.getElem_cons_zero, List.getElem_cons_succ, List.setIfInBounds_toArray, List.set_cons_zero, List.set_cons_succ]
              refine wpAnyH_ready (rs := [23]) (by kernel_rfl) (by simp) ?_
              refine AllReadyH.cons rfl (fun K hK => ?_) AllReadyH.nil
              go_simp
              go_wp2_with fail
              refine (CH.out W17).mono ?_
              rintro e W23 ⟨rfl, rfl⟩
              refine hK.out _ _ hHeld (fun _ => ?_)
              clear hK K
              try simp only [Act.put, List.getElem_toArray, List.getElem_cons_zero, List.getElem_cons_succ, List.setIfInBounds_toArray, List.set_cons_zero, List.set_cons_succ]
              refine wpAnyH_take (i := 24) (v := ?_) rfl (by kernel_rfl) (by kernel_rfl) (by kernel_rfl) (fun _ _ _ h => h) (Or.inl ⟨by kernel_rfl, ?hy24⟩) (by assumption) ?_
              case hy24 => (intro wI hSw; (try dsimp only at hSw); obtain ⟨t0, t1, t2, t3⟩ := HC.out _ hSw; go_simp; try with_reducible rfl)
              try simp only [Act.put, List.getElem_toArray, List.getElem_cons_zero, List.getElem_cons_succ, List.setIfInBounds_toArray, List.set_cons_zero, List.set_cons_succ]
              refine wpAnyH_ready (rs := [26]) (by kernel_rfl) (by simp) ?_
              refine AllReadyH.cons rfl (fun K hK => ?_) AllReadyH.nil
              obtain ⟨k0, k1, k2, k3⟩ := hB.all
              have f0 := hB.fz 0
              have f1 := hB.fz 1
              have f2 := hB.fz 2
              have f3 := hB.fz 3
              have hlB := hB.lt
              have hB2 := hB.st ⟨(zx : Int), (zy : Int), (zw : Int), (zh : Int)⟩
              have hH2 := below_st hHeld (Nat.le_refl _) ⟨(zx : Int), (zy : Int), (zw : Int), (zh : Int)⟩
              go_simp
              refine hK.out _ _ hH2 (fun _ => ?_)
              clear hK K hHeld hB k0 k1 k2 k3 f0 f1 f2 f3 hlB
              have hHeld := hH2
              have hB := hB2
              clear hH2 hB2
              try simp only [Act.put, List.getElem_toArray, List.getElem_cons_zero, List.getElem_cons_succ, List.setIfInBounds_toArray, List.set_cons_zero, List.set_cons_succ]
              refine wpAnyH_done (by kernel_rfl) ?_ _
              go_wp2_with fail
              go_meet
              exact ⟨rfl, hB, hHeld⟩
            exact AllReadyH.nil
          refine AllReadyH.cons rfl (fun K hK => ?_) ?_
          · have hB2 := bx_new W0 rz
            have hH2 := Below.on hHeld (bel_nw W0 (.cells #[.int .i64 rz.x, .int .i64 rz.y, .int .i64 rz.w, .int .i64 rz.h] 59))
            simp only [rz] at hB2 hH2
            go_simp
            refine hK.out _ _ hH2 (fun _ => ?_)
            rw [hs0] at hB2
            try simp only [hs0]
            clear hK K hHeld hs0
            generalize W0.alloc (.cells #[.int .i64 0, .int .i64 0, .int .i64 0, .int .i64 0] 59) = W25 at hB2 hH2 ⊢
            have hHeld := hH2
            have hB := hB2
            clear hH2 hB2
            try simp only [Act.put, List.getElem_toArray, List.getElem_cons_zero, List.getElem_cons_succ, List.setIfInBounds_toArray, List.set_cons_zero, List.set_cons_succ]
            refine wpAnyH_ready (rs := [5]) (by kernel_rfl) (by simp) ?_
            refine AllReadyH.cons rfl (fun K hK => ?_) AllReadyH.nil
            go_simp
            go_wp2_with fail
            refine (CX.out W25).mono ?_
            rintro e W5 ⟨rfl, rfl⟩
            refine hK.out _ _ hHeld (fun _ => ?_)
            clear hK K
            try simp only [Act.put, List.getElem_toArray, List.getElem_cons_zero, List.getElem_cons_succ, List.setIfInBounds_toArray, List.set_cons_zero, List.set_cons_succ]
            refine wpAnyH_ready (rs := [11]) (by kernel_rfl) (by simp) ?_
            refine AllReadyH.cons rfl (fun K hK => ?_) AllReadyH.nil
            go_simp
            go_wp2_with fail
            refine (CY.out W5).mono ?_
            rintro e W11 ⟨rfl, rfl⟩
            refine hK.out _ _ hHeld (fun _ => ?_)
            clear hK K
            try simp only [Act.put, List.getElem_toArray, List.getElem_cons_zero, List.getElem_cons_succ, List.setIfInBounds_toArray, List.set_cons_zero, List.set_cons_succ]
            refine wpAnyH_ready (rs := [17]) (by kernel_rfl) (by simp) ?_
            refine AllReadyH.cons rfl (fun K hK => ?_) AllReadyH.nil
            go_simp
            go_wp2_with fail
            refine (CW.out W11).mono ?_
            rintro e W17 ⟨rfl, rfl⟩
            refine hK.out _ _ hHeld (fun _ => ?_)
            clear hK K
            try simp only [Act.put, List.getElem_toArray, List.getElem_cons_zero, List.getElem_cons_succ, List.setIfInBounds_toArray, List.set_cons_zero, List.set_cons_succ]
            refine wpAnyH_ready (rs := [23]) (by kernel_rfl) (by simp) ?_
            refine AllReadyH.cons rfl (fun K hK => ?_) AllReadyH.nil
            go_simp
            go_wp2_with fail
            refine (CH.out W17).mono ?_
            rintro e W23 ⟨rfl, rfl⟩
            refine hK.out _ _ hHeld (fun _ => ?_)
            clear hK K
            try simp only [Act.put, List.getElem_toArray, List.getElem_cons_zero, List.getElem_cons_succ, List.setIfInBounds_toArray, List.set_cons_zero, List.set_cons_succ]
            refine wpAnyH_take (i := 24) (v := ?_) rfl (by kernel_rfl) (by kernel_rfl) (by kernel_rfl) (fun _ _ _ h => h) (Or.inl ⟨by kernel_rfl, ?hy24⟩) (by assumption) ?_
            case hy24 => (intro wI hSw; (try dsimp only at hSw); obtain ⟨t0, t1, t2, t3⟩ := HC.out _ hSw; go_simp; try with_reducible rfl)
            try simp only [Act.put, List.getElem_toArray, List.getElem_cons_zero, List.getElem_cons_succ, List.setIfInBounds_toArray, List.set_cons_zero, List.set_cons_succ]
            refine wpAnyH_ready (rs := [26]) (by kernel_rfl) (by simp) ?_
            refine AllReadyH.cons rfl (fun K hK => ?_) AllReadyH.nil
            obtain ⟨k0, k1, k2, k3⟩ := hB.all
            have f0 := hB.fz 0
            have f1 := hB.fz 1
            have f2 := hB.fz 2
            have f3 := hB.fz 3
            have hlB := hB.lt
            have hB2 := hB.st ⟨(zx : Int), (zy : Int), (zw : Int), (zh : Int)⟩
            have hH2 := below_st hHeld (Nat.le_refl _) ⟨(zx : Int), (zy : Int), (zw : Int), (zh : Int)⟩
            go_simp
            refine hK.out _ _ hH2 (fun _ => ?_)
            clear hK K hHeld hB k0 k1 k2 k3 f0 f1 f2 f3 hlB
            have hHeld := hH2
            have hB := hB2
            clear hH2 hB2
            try simp only [Act.put, List.getElem_toArray, List.getElem_cons_zero, List.getElem_cons_succ, List.setIfInBounds_toArray, List.set_cons_zero, List.set_cons_succ]
            refine wpAnyH_done (by kernel_rfl) ?_ _
            go_wp2_with fail
            go_meet
            exact ⟨rfl, hB, hHeld⟩
          exact AllReadyH.nil
        case rest =>
          obtain ⟨rfl, hB, hbw⟩ := hcut
          have HO2 := hid (HO.out.on hbw)
          have HB := hid hB
          obtain ⟨k0, k1, k2, k3⟩ := hB.all
          obtain ⟨x9, hx9⟩ : ∃ x9 : Ht, x9 = full ((j : Int) + 1) zx zy zw zh := ⟨_, rfl⟩
          have HX9 := hid hx9
          have HSR := hid (src_hit wc x9)
          have HOW := hid (ownsRow_below HO2.out.own (bel_nw wc (.cells (htv x9) 61)))
          have HBS : Hid (u.heap.size ≤ (wc.alloc (.cells (htv x9) 61)).heap.size) := by have := HO2.out.bel.size; rw [Hid, World.size_alloc]; omega
          rw [hx9] at HSR HOW HBS
          simp only [full, htv] at HSR HOW HBS
          have hln : hl.length ≤ 100 := by rw [HLN.out]; omega
          clear hB hbw HC CX CY CW CH HO hx9
          go_upto_region 9 with (at_builtin; refine wpList_append_own_src _ rfl (.tmp 57) (.tmp 69) 39 39 rfl u.heap.size 61 i0 (.agg #[.int .i64 0, .int .i64 0, .int .i64 0, .int .i64 0, .int .i64 0, .bool false, .slice none 0 0]) 7 72 Try.underlying39 hi hz0 hz1 hz2 rfl _ _ _ rfl HOW.out _ _ _ rfl HSR.out (by simp only [maxLen]; omega) (fits72 (by omega)) HBS.out ?_; intro v3 w4 o3 g3; have HO3 := hid o3; have HG3 := hid g3; clear o3 g3)
          have HO4 : Hid (OwH u w4 v3 (hl ++ [x9])) := HO2.out.more (by rw [HX9.out]; exact rg_full _ (by omega) (by omega) (by omega) (by omega) (by omega)) (by rw [HX9.out]; exact HO3.out) HG3.out
          have hB4 : Bx w4 wr.heap.size ⟨zx, zy, zw, zh⟩ := ⟨grown_at HG3.out (hp_ol HB.out.obj _) (own_not HOW.out (hp_ol HB.out.obj _) (by decide))⟩
          obtain ⟨k0, k1, k2, k3⟩ := hB4.all
          have HB4 := hid hB4
          have HHT : Hid (x9.hit px py = (decide (zx ≤ px) && (decide (px < zx + zw) && (decide (zy ≤ py) && decide (py < zy + zh))))) := by rw [Hid, HX9.out, full_hit]
          have HAM := hid (atL_more hl x9 px py)
          obtain ⟨q, hq⟩ : ∃ q : Bool, q = x9.hit px py := ⟨_, rfl⟩
          rw [← hq] at HHT HAM
          have HXS : Hid (x9.s = (j : Int) + 1 ∧ x9.x = zx ∧ x9.y = zy) := by rw [Hid, HX9.out]; exact ⟨rfl, rfl, rfl⟩
          clear hq hB4 HO3 HG3 HOW HSR HBS HB HO2 HX9
          go_cut [98] from 22 to 108 (fun v wx => v = .bool q ∧ wx = w4)
          case first =>
            by_cases t1 : zx ≤ px
            · have e4 : decide (zx ≤ px) = true := decide_eq_true t1
              by_cases t2 : px < zx + zw
              · have e5 : decide (px < zx + zw) = true := decide_eq_true t2
                by_cases t3 : zy ≤ py
                · have e6 : decide (zy ≤ py) = true := decide_eq_true t3
                  have hqv : q = decide (py < zy + zh) := by rw [HHT.out, e4, e5, e6]; rfl
                  clear t1 t2 t3
                  go_wp2_with fail
                  go_meet
                  exact ⟨by rw [hqv], rfl⟩
                · have e6 : decide (zy ≤ py) = false := decide_eq_false t3
                  have hqv : q = false := by rw [HHT.out, e4, e5, e6]; rfl
                  clear t1 t2 t3
                  go_wp2_with fail
                  go_meet
                  exact ⟨by rw [hqv], rfl⟩
              · have e5 : decide (px < zx + zw) = false := decide_eq_false t2
                have hqv : q = false := by rw [HHT.out, e4, e5]; rfl
                clear t1 t2
                go_wp2_with fail
                go_meet
                exact ⟨by rw [hqv], rfl⟩
            · have e4 : decide (zx ≤ px) = false := decide_eq_false t1
              have hqv : q = false := by rw [HHT.out, e4]; rfl
              clear t1
              go_wp2_with fail
              go_meet
              exact ⟨by rw [hqv], rfl⟩
          case rest =>
            obtain ⟨rfl, rfl⟩ := hcut
            clear k0 k1 k2 k3
            cases q with
            | false =>
              have HAT : Hid (atL (hl ++ [x9]) px py = (z0, z1, z2)) := by rw [Hid, HAM.out]; exact HA.out
              clear HAM HA HB4
              go_wp2
              go_roundw
              case rel => exact ⟨j + 1, hl ++ [x9], z0, z1, z2, by go_num, rfl, rfl, rfl, by omega, by omega, by rw [List.length_append, HLN.out]; rfl, HO4.out, HAT.out⟩
              case measure => simp [numOf]; omega
            | true =>
              obtain ⟨k0, k1, k2, k3⟩ := HB4.out.all
              have HAT : Hid (atL (hl ++ [x9]) px py = ((j : Int) + 1, px - zx, py - zy)) := by rw [Hid, HAM.out, HXS.out.1, HXS.out.2.1, HXS.out.2.2]; rfl
              have hw0 : IntKind.i64.wrap ((j : Int) + 1) = (j : Int) + 1 := by rw [IntKind.wrap_i64]; omega
              have hw1 : IntKind.i64.wrap (px - zx) = px - zx := by rw [IntKind.wrap_i64]; omega
              have hw2 : IntKind.i64.wrap (py - zy) = py - zy := by rw [IntKind.wrap_i64]; omega
              clear HAM HA HB4
              go_wp2
              go_quiet (fail)
              go_wp2
              go_roundw
              case rel => exact ⟨j + 1, hl ++ [x9], (j : Int) + 1, px - zx, py - zy, by go_num, rfl, rfl, rfl, by omega, by omega, by rw [List.length_append, HLN.out]; rfl, HO4.out.on (below_drewN (Below.refl _ _) _), HAT.out⟩
              case measure => simp [numOf]; omega
      · by_cases hjn : j < n
        · have e1 : decide ((j : Int) < (n : Int)) = true := decide_eq_true (by omega)
          have e2 : decide ((j : Int) < 12) = false := decide_eq_false (by omega)
          go_wp2
          go_meet
          exact ⟨hl, z0, z1, z2, rfl, rfl, rfl, HO.out, HA.out⟩
        · have e1 : decide ((j : Int) < (n : Int)) = false := decide_eq_false (by omega)
          go_wp2
          go_meet
          exact ⟨hl, z0, z1, z2, rfl, rfl, rfl, HO.out, HA.out⟩
  case rest =>
    obtain ⟨hl, z0, z1, z2, rfl, rfl, rfl, hO, hat⟩ := hcut
    obtain ⟨av, cv, rfl, hrd, _⟩ := hO.rd
    have CA := hid (sat_any av _ cv hl px py (by omega) (by omega) wc hrd)
    rw [hat] at CA
    have HB := hid hO.bel
    clear hO hrd hat
    go_wp2_with fail
    refine CA.out.mono ?_
    rintro e w5 ⟨rfl, hb5⟩
    have HB5 := hid (Below.on HB.out hb5)
    clear hb5 CA
    go_wp2_with fail
    refine (sawake_any w5).mono ?_
    rintro e w9 ⟨rfl, hb9⟩
    have HB9 := hid (Below.on HB5.out hb9)
    clear hb9
    go_wp2
    go_ret
    exact ⟨rfl, HB9.out⟩
end Go.Proofs.Ytegmolmjoiklpaa.seatTops
