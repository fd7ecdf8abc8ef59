/- PingPlays: for every slice of calls the call returns true; nothing that was there has turned. -/
import Derived.Test.YthoonceohipikaaPngC
import Derived.Deep.CutBlock
import Derived.Deep.DeepCutAuto
namespace Go.Proofs.Ythoonceohipikaa.pingPlays
open Go Go.RowKit

set_option maxRecDepth 100000 in
set_option maxHeartbeats 2000000 in
theorem walk (a : Option Addr) (n c : Nat) (l : List (List Int)) (w : World) (h : RdN 3 w a n c l) :
    Calls Try.prog 3 #[.slice a n c] w fun e w' => e = .returned (.bool true) ∧ Below w.heap.size w w' := by
  have HR := hid (rdm_of_rdn (by omega) h)
  have hs := HR.out.small
  have HW := hid h.wf
  clear h
  go_enter Try.func3, Try.ntmps3
  go_wp2_with fail
  refine (pqnew w).mono ?_
  rintro e w1 ⟨rfl, h1⟩
  have H2 : Hid (B2 w (w1.alloc (.cells #[.bool false, .int .i64 0, .int .i64 0] 27)) w.heap.size w1.heap.size none none) :=
    ⟨Below.on h1.bel (bel_nw w1 _), ⟨Nat.le_refl _, h1.bel.size⟩, Nat.ne_of_lt h1.pn.lt, h1.pn.on (bel_nw w1 _), ⟨heap_alloc_new w1 _, by simp [psr, I64], by simp [ptk, I64]⟩⟩
  clear h1
  go_upto_block 0 with fail
  generalize w1.alloc (.cells #[.bool false, .int .i64 0, .int .i64 0] 27) = w5 at *
  generalize w1.heap.size = q at *
  generalize hp : w.heap.size = p at H2 ⊢
  go_cut [] (fun wc => RowKit.Below w.heap.size w wc)
  case first =>
    go_wp2
    go_loopw [5] (fun i wr => ∃ (j : Nat) (o : Option (Int × Int)), i = .int .i64 j ∧ j ≤ n ∧ j ≤ 60 ∧ B2 w wr p q o o) (fun i _ => n - (numOf i).toNat)
    case atStart => exact ⟨0, none, rfl, by omega, by omega, H2.out⟩
    case round =>
      obtain ⟨j, o, rfl, hj, hj60, hk⟩ := hrel
      clear H2
      by_cases hgo : j < n ∧ j < 60
      · obtain ⟨hgo1, hgo2⟩ := hgo
        have e1 : decide ((j : Int) < (n : Int)) = true := decide_eq_true (by omega)
        have e2 : decide ((j : Int) < 60) = true := decide_eq_true (by omega)
        have e3 : (j : Int) < (n : Int) := by omega
        obtain ⟨bl, off, k, s, t, rfl, hbl, hy, c0, c1, c2⟩ := (HR.out.on hk.bel).el3 hgo1
        have hwf := HW.out _ (List.mem_of_getElem? hy)
        have hkI := wfi (hwf k (by simp))
        have hsI : I64 s := wfi (hwf s (by simp))
        have htI : I64 t := wfi (hwf t (by simp))
        have HI := hid (And.intro hsI htI)
        have CP := hid (place_any k 5 hkI (by omega) (by omega))
        have hv := plc_lt k 5 (by omega)
        obtain ⟨v, hv'⟩ : ∃ v, v = plc k 5 := ⟨_, rfl⟩
        rw [← hv'] at CP hv
        have hO := hk.bo #[.int .i64 k, .int .i64 s, .int .i64 t]
        clear hv' hk hwf hkI hsI htI hy
        go_upto_region 10 with fail
        generalize wr.alloc (.cells #[.int .i64 k, .int .i64 s, .int .i64 t] 29) = X1 at *
        generalize wr.heap.size = g at *
        have c5 : X1.cell? ⟨g, 0, none⟩ = some (.int .i64 k) := (Lib.cell_of_heap hO.oc 0).trans rfl
        have l5 := hO.lt
        go_wp2_with fail
        refine (CP.out X1).mono ?_
        rintro e X1 ⟨rfl, rfl⟩
        clear c0 c1 c2 c5 l5 CP hbl
        go_upto_block 2 with fail
        go_cut [7] from 32 to 67 (fun ok wx => ok = .bool true ∧ ∃ o', Bo w wx p q o' o' g #[.int .i64 k, .int .i64 s, .int .i64 t])
        case first =>
          obtain rfl | rfl | rfl | h8 : v = 2 ∨ v = 3 ∨ v = 4 ∨ (v ≠ 2 ∧ v ≠ 3 ∧ v ≠ 4) := by omega
          · as_aux_lemma =>
              go_upto_region 14 with fail
              replace hO := hO.drew
              have hHeld := hO.oc
              refine wp_region_held_drew (S := fun x => x.heap[g]? = some (.cells #[.int .i64 k, .int .i64 s, .int .i64 t] 29 (0, 0))) (by kernel_rfl) hHeld (fun _ => ?_)
              refine wpAnyH_take (i := 0) (v := ?_) rfl (by kernel_rfl) (by kernel_rfl) (by kernel_rfl) (fun _ _ _ h => h) (Or.inl ⟨by kernel_rfl, ?hy0⟩) (by assumption) ?_
              case hy0 => (intro w hSw; (try dsimp only at hSw); have t1 := (Lib.cell_of_heap hSw 1).trans rfl; have t2 := (Lib.cell_of_heap hSw 2).trans rfl; go_simp; try with_reducible rfl)
              try simp only [Act.put, List.getElem_toArray, List.getElem_cons_zero, List.setIfInBounds_toArray, List.set_cons_zero, List.set_cons_succ]
              refine wpAnyH_take (i := 1) (v := ?_) rfl (by kernel_rfl) (by kernel_rfl) (by kernel_rfl) (fun _ _ _ h => h) (Or.inl ⟨by kernel_rfl, ?hy1⟩) (by assumption) ?_
              case hy1 => (intro w hSw; (try dsimp only at hSw); have t1 := (Lib.cell_of_heap hSw 1).trans rfl; have t2 := (Lib.cell_of_heap hSw 2).trans rfl; go_simp; try with_reducible rfl)
              try simp only [Act.put, List.getElem_toArray, List.getElem_cons_zero, List.getElem_cons_succ, List.setIfInBounds_toArray, List.set_cons_zero, List.set_cons_succ]
              refine wpAnyH_take (i := 2) (v := ?_) rfl (by kernel_rfl) (by kernel_rfl) (by kernel_rfl) (fun _ _ _ h => h) (Or.inl ⟨by kernel_rfl, ?hy2⟩) (by assumption) ?_
              case hy2 => (intro w hSw; (try dsimp only at hSw); have t1 := (Lib.cell_of_heap hSw 1).trans rfl; have t2 := (Lib.cell_of_heap hSw 2).trans rfl; go_simp; try with_reducible rfl)
              try simp only [Act.put, List.getElem_toArray, List.getElem_cons_zero, List.getElem_cons_succ, List.setIfInBounds_toArray, List.set_cons_zero, List.set_cons_succ]
              refine wpAnyH_take (i := 4) (v := ?_) rfl (by kernel_rfl) (by kernel_rfl) (by kernel_rfl) (fun _ _ _ h => h) (Or.inl ⟨by kernel_rfl, ?hy4⟩) (by assumption) ?_
              case hy4 => (intro w hSw; (try dsimp only at hSw); have t1 := (Lib.cell_of_heap hSw 1).trans rfl; have t2 := (Lib.cell_of_heap hSw 2).trans rfl; go_simp; try with_reducible rfl)
              try simp only [Act.put, List.getElem_toArray, List.getElem_cons_zero, List.getElem_cons_succ, List.setIfInBounds_toArray, List.set_cons_zero, List.set_cons_succ]
              refine wpAnyH_take (i := 5) (v := ?_) rfl (by kernel_rfl) (by kernel_rfl) (by kernel_rfl) (fun _ _ _ h => h) (Or.inl ⟨by kernel_rfl, ?hy5⟩) (by assumption) ?_
              case hy5 => (intro w hSw; (try dsimp only at hSw); have t1 := (Lib.cell_of_heap hSw 1).trans rfl; have t2 := (Lib.cell_of_heap hSw 2).trans rfl; go_simp; try with_reducible rfl)
              try simp only [Act.put, List.getElem_toArray, List.getElem_cons_zero, List.getElem_cons_succ, List.setIfInBounds_toArray, List.set_cons_zero, List.set_cons_succ]
              refine wpAnyH_take (i := 6) (v := ?_) rfl (by kernel_rfl) (by kernel_rfl) (by kernel_rfl) (fun _ _ _ h => h) (Or.inl ⟨by kernel_rfl, ?hy6⟩) (by assumption) ?_
              case hy6 => (intro w hSw; (try dsimp only at hSw); have t1 := (Lib.cell_of_heap hSw 1).trans rfl; have t2 := (Lib.cell_of_heap hSw 2).trans rfl; go_simp; try with_reducible rfl)
              try simp only [Act.put, List.getElem_toArray, List.getElem_cons_zero, List.getElem_cons_succ, List.setIfInBounds_toArray, List.set_cons_zero, List.set_cons_succ]
              refine wpAnyH_ready (rs := [3]) (by kernel_rfl) (by simp) ?_
              refine AllReadyH.cons rfl (fun K hK => ?_) AllReadyH.nil
              go_simp
              go_wp2_with fail
              refine (hO.pong s).mono ?_
              rintro e u203 ⟨rfl, hO'⟩
              refine hK.out _ _ hO'.oc (fun _ => ?_)
              clear hK K hHeld hO
              have hO := hO'
              have hHeld := hO.oc
              clear hO'
              refine wpAnyH_ready (rs := [7]) (by kernel_rfl) (by simp) ?_
              refine AllReadyH.cons rfl (fun K hK => ?_) AllReadyH.nil
              go_simp
              go_wp2_with fail
              refine (hO.rpong s).mono ?_
              rintro e u207 ⟨rfl, hO'⟩
              refine hK.out _ _ hO'.oc (fun _ => ?_)
              clear hK K hHeld hO
              have hO := hO'
              have hHeld := hO.oc
              clear hO'
              refine wpAnyH_take (i := 8) (v := ?_) rfl (by kernel_rfl) (by kernel_rfl) (by kernel_rfl) (fun _ _ _ h => h) (Or.inl ⟨by kernel_rfl, ?hy8⟩) (by assumption) ?_
              case hy8 => (intro w hSw; (try dsimp only at hSw); have t1 := (Lib.cell_of_heap hSw 1).trans rfl; have t2 := (Lib.cell_of_heap hSw 2).trans rfl; go_simp; try with_reducible rfl)
              try simp only [Act.put, List.getElem_toArray, List.getElem_cons_zero, List.getElem_cons_succ, List.setIfInBounds_toArray, List.set_cons_zero, List.set_cons_succ]
              refine wpAnyH_take (i := 9) (v := ?_) rfl (by kernel_rfl) (by kernel_rfl) (by kernel_rfl) (fun _ _ _ h => h) (Or.inl ⟨by kernel_rfl, ?hy9⟩) (by assumption) ?_
              case hy9 => (intro w hSw; (try dsimp only at hSw); have t1 := (Lib.cell_of_heap hSw 1).trans rfl; have t2 := (Lib.cell_of_heap hSw 2).trans rfl; go_simp; try with_reducible rfl)
              try simp only [Act.put, List.getElem_toArray, List.getElem_cons_zero, List.getElem_cons_succ, List.setIfInBounds_toArray, List.set_cons_zero, List.set_cons_succ]
              refine wpAnyH_done (by kernel_rfl) ?_ _
              go_wp2_with fail
              go_meet
              exact ⟨rfl, _, hO⟩
          · as_aux_lemma =>
              go_upto_region 14 with fail
              replace hO := hO.drew
              have hHeld := hO.oc
              refine wp_region_held_drew (S := fun x => x.heap[g]? = some (.cells #[.int .i64 k, .int .i64 s, .int .i64 t] 29 (0, 0))) (by kernel_rfl) hHeld (fun _ => ?_)
              refine wpAnyH_take (i := 0) (v := ?_) rfl (by kernel_rfl) (by kernel_rfl) (by kernel_rfl) (fun _ _ _ h => h) (Or.inl ⟨by kernel_rfl, ?hy0⟩) (by assumption) ?_
              case hy0 => (intro w hSw; (try dsimp only at hSw); have t1 := (Lib.cell_of_heap hSw 1).trans rfl; have t2 := (Lib.cell_of_heap hSw 2).trans rfl; go_simp; try with_reducible rfl)
              try simp only [Act.put, List.getElem_toArray, List.getElem_cons_zero, List.setIfInBounds_toArray, List.set_cons_zero, List.set_cons_succ]
              refine wpAnyH_take (i := 1) (v := ?_) rfl (by kernel_rfl) (by kernel_rfl) (by kernel_rfl) (fun _ _ _ h => h) (Or.inl ⟨by kernel_rfl, ?hy1⟩) (by assumption) ?_
              case hy1 => (intro w hSw; (try dsimp only at hSw); have t1 := (Lib.cell_of_heap hSw 1).trans rfl; have t2 := (Lib.cell_of_heap hSw 2).trans rfl; go_simp; try with_reducible rfl)
              try simp only [Act.put, List.getElem_toArray, List.getElem_cons_zero, List.getElem_cons_succ, List.setIfInBounds_toArray, List.set_cons_zero, List.set_cons_succ]
              refine wpAnyH_take (i := 2) (v := ?_) rfl (by kernel_rfl) (by kernel_rfl) (by kernel_rfl) (fun _ _ _ h => h) (Or.inl ⟨by kernel_rfl, ?hy2⟩) (by assumption) ?_
              case hy2 => (intro w hSw; (try dsimp only at hSw); have t1 := (Lib.cell_of_heap hSw 1).trans rfl; have t2 := (Lib.cell_of_heap hSw 2).trans rfl; go_simp; try with_reducible rfl)
              try simp only [Act.put, List.getElem_toArray, List.getElem_cons_zero, List.getElem_cons_succ, List.setIfInBounds_toArray, List.set_cons_zero, List.set_cons_succ]
              refine wpAnyH_take (i := 4) (v := ?_) rfl (by kernel_rfl) (by kernel_rfl) (by kernel_rfl) (fun _ _ _ h => h) (Or.inl ⟨by kernel_rfl, ?hy4⟩) (by assumption) ?_
              case hy4 => (intro w hSw; (try dsimp only at hSw); have t1 := (Lib.cell_of_heap hSw 1).trans rfl; have t2 := (Lib.cell_of_heap hSw 2).trans rfl; go_simp; try with_reducible rfl)
              try simp only [Act.put, List.getElem_toArray, List.getElem_cons_zero, List.getElem_cons_succ, List.setIfInBounds_toArray, List.set_cons_zero, List.set_cons_succ]
              refine wpAnyH_take (i := 5) (v := ?_) rfl (by kernel_rfl) (by kernel_rfl) (by kernel_rfl) (fun _ _ _ h => h) (Or.inl ⟨by kernel_rfl, ?hy5⟩) (by assumption) ?_
              case hy5 => (intro w hSw; (try dsimp only at hSw); have t1 := (Lib.cell_of_heap hSw 1).trans rfl; have t2 := (Lib.cell_of_heap hSw 2).trans rfl; go_simp; try with_reducible rfl)
              try simp only [Act.put, List.getElem_toArray, List.getElem_cons_zero, List.getElem_cons_succ, List.setIfInBounds_toArray, List.set_cons_zero, List.set_cons_succ]
              refine wpAnyH_take (i := 6) (v := ?_) rfl (by kernel_rfl) (by kernel_rfl) (by kernel_rfl) (fun _ _ _ h => h) (Or.inl ⟨by kernel_rfl, ?hy6⟩) (by assumption) ?_
              case hy6 => (intro w hSw; (try dsimp only at hSw); have t1 := (Lib.cell_of_heap hSw 1).trans rfl; have t2 := (Lib.cell_of_heap hSw 2).trans rfl; go_simp; try with_reducible rfl)
              try simp only [Act.put, List.getElem_toArray, List.getElem_cons_zero, List.getElem_cons_succ, List.setIfInBounds_toArray, List.set_cons_zero, List.set_cons_succ]
              refine wpAnyH_ready (rs := [3]) (by kernel_rfl) (by simp) ?_
              refine AllReadyH.cons rfl (fun K hK => ?_) AllReadyH.nil
              go_simp
              go_wp2_with fail
              refine (hO.pong s).mono ?_
              rintro e u203 ⟨rfl, hO'⟩
              refine hK.out _ _ hO'.oc (fun _ => ?_)
              clear hK K hHeld hO
              have hO := hO'
              have hHeld := hO.oc
              clear hO'
              refine wpAnyH_ready (rs := [7]) (by kernel_rfl) (by simp) ?_
              refine AllReadyH.cons rfl (fun K hK => ?_) AllReadyH.nil
              go_simp
              go_wp2_with fail
              refine (hO.rpong s).mono ?_
              rintro e u207 ⟨rfl, hO'⟩
              refine hK.out _ _ hO'.oc (fun _ => ?_)
              clear hK K hHeld hO
              have hO := hO'
              have hHeld := hO.oc
              clear hO'
              refine wpAnyH_take (i := 8) (v := ?_) rfl (by kernel_rfl) (by kernel_rfl) (by kernel_rfl) (fun _ _ _ h => h) (Or.inl ⟨by kernel_rfl, ?hy8⟩) (by assumption) ?_
              case hy8 => (intro w hSw; (try dsimp only at hSw); have t1 := (Lib.cell_of_heap hSw 1).trans rfl; have t2 := (Lib.cell_of_heap hSw 2).trans rfl; go_simp; try with_reducible rfl)
              try simp only [Act.put, List.getElem_toArray, List.getElem_cons_zero, List.getElem_cons_succ, List.setIfInBounds_toArray, List.set_cons_zero, List.set_cons_succ]
              refine wpAnyH_take (i := 9) (v := ?_) rfl (by kernel_rfl) (by kernel_rfl) (by kernel_rfl) (fun _ _ _ h => h) (Or.inl ⟨by kernel_rfl, ?hy9⟩) (by assumption) ?_
              case hy9 => (intro w hSw; (try dsimp only at hSw); have t1 := (Lib.cell_of_heap hSw 1).trans rfl; have t2 := (Lib.cell_of_heap hSw 2).trans rfl; go_simp; try with_reducible rfl)
              try simp only [Act.put, List.getElem_toArray, List.getElem_cons_zero, List.getElem_cons_succ, List.setIfInBounds_toArray, List.set_cons_zero, List.set_cons_succ]
              refine wpAnyH_done (by kernel_rfl) ?_ _
              go_wp2_with fail
              go_meet
              exact ⟨rfl, _, hO⟩
          · as_aux_lemma =>
              go_upto_region 16 with fail
              replace hO := hO.drew
              have hHeld := hO.oc
              refine wp_region_held_drew (S := fun x => x.heap[g]? = some (.cells #[.int .i64 k, .int .i64 s, .int .i64 t] 29 (0, 0))) (by kernel_rfl) hHeld (fun _ => ?_)
              refine wpAnyH_take (i := 0) (v := ?_) rfl (by kernel_rfl) (by kernel_rfl) (by kernel_rfl) (fun _ _ _ h => h) (Or.inl ⟨by kernel_rfl, ?hy0⟩) (by assumption) ?_
              case hy0 => (intro w hSw; (try dsimp only at hSw); have t1 := (Lib.cell_of_heap hSw 1).trans rfl; have t2 := (Lib.cell_of_heap hSw 2).trans rfl; go_simp; try with_reducible rfl)
              try simp only [Act.put, List.getElem_toArray, List.getElem_cons_zero, List.setIfInBounds_toArray, List.set_cons_zero, List.set_cons_succ]
              refine wpAnyH_take (i := 1) (v := ?_) rfl (by kernel_rfl) (by kernel_rfl) (by kernel_rfl) (fun _ _ _ h => h) (Or.inl ⟨by kernel_rfl, ?hy1⟩) (by assumption) ?_
              case hy1 => (intro w hSw; (try dsimp only at hSw); have t1 := (Lib.cell_of_heap hSw 1).trans rfl; have t2 := (Lib.cell_of_heap hSw 2).trans rfl; go_simp; try with_reducible rfl)
              try simp only [Act.put, List.getElem_toArray, List.getElem_cons_zero, List.getElem_cons_succ, List.setIfInBounds_toArray, List.set_cons_zero, List.set_cons_succ]
              refine wpAnyH_take (i := 2) (v := ?_) rfl (by kernel_rfl) (by kernel_rfl) (by kernel_rfl) (fun _ _ _ h => h) (Or.inl ⟨by kernel_rfl, ?hy2⟩) (by assumption) ?_
              case hy2 => (intro w hSw; (try dsimp only at hSw); have t1 := (Lib.cell_of_heap hSw 1).trans rfl; have t2 := (Lib.cell_of_heap hSw 2).trans rfl; go_simp; try with_reducible rfl)
              try simp only [Act.put, List.getElem_toArray, List.getElem_cons_zero, List.getElem_cons_succ, List.setIfInBounds_toArray, List.set_cons_zero, List.set_cons_succ]
              refine wpAnyH_take (i := 4) (v := ?_) rfl (by kernel_rfl) (by kernel_rfl) (by kernel_rfl) (fun _ _ _ h => h) (Or.inl ⟨by kernel_rfl, ?hy4⟩) (by assumption) ?_
              case hy4 => (intro w hSw; (try dsimp only at hSw); have t1 := (Lib.cell_of_heap hSw 1).trans rfl; have t2 := (Lib.cell_of_heap hSw 2).trans rfl; go_simp; try with_reducible rfl)
              try simp only [Act.put, List.getElem_toArray, List.getElem_cons_zero, List.getElem_cons_succ, List.setIfInBounds_toArray, List.set_cons_zero, List.set_cons_succ]
              refine wpAnyH_take (i := 5) (v := ?_) rfl (by kernel_rfl) (by kernel_rfl) (by kernel_rfl) (fun _ _ _ h => h) (Or.inl ⟨by kernel_rfl, ?hy5⟩) (by assumption) ?_
              case hy5 => (intro w hSw; (try dsimp only at hSw); have t1 := (Lib.cell_of_heap hSw 1).trans rfl; have t2 := (Lib.cell_of_heap hSw 2).trans rfl; go_simp; try with_reducible rfl)
              try simp only [Act.put, List.getElem_toArray, List.getElem_cons_zero, List.getElem_cons_succ, List.setIfInBounds_toArray, List.set_cons_zero, List.set_cons_succ]
              refine wpAnyH_take (i := 6) (v := ?_) rfl (by kernel_rfl) (by kernel_rfl) (by kernel_rfl) (fun _ _ _ h => h) (Or.inl ⟨by kernel_rfl, ?hy6⟩) (by assumption) ?_
              case hy6 => (intro w hSw; (try dsimp only at hSw); have t1 := (Lib.cell_of_heap hSw 1).trans rfl; have t2 := (Lib.cell_of_heap hSw 2).trans rfl; go_simp; try with_reducible rfl)
              try simp only [Act.put, List.getElem_toArray, List.getElem_cons_zero, List.getElem_cons_succ, List.setIfInBounds_toArray, List.set_cons_zero, List.set_cons_succ]
              refine wpAnyH_ready (rs := [3]) (by kernel_rfl) (by simp) ?_
              refine AllReadyH.cons rfl (fun K hK => ?_) AllReadyH.nil
              go_simp
              go_wp2_with fail
              refine (hO.late t HI.out.2).mono ?_
              rintro e u203 ⟨rfl, hO'⟩
              refine hK.out _ _ hO'.oc (fun _ => ?_)
              clear hK K hHeld hO
              have hO := hO'
              have hHeld := hO.oc
              clear hO'
              refine wpAnyH_ready (rs := [7]) (by kernel_rfl) (by simp) ?_
              refine AllReadyH.cons rfl (fun K hK => ?_) AllReadyH.nil
              go_simp
              go_wp2_with fail
              refine (hO.rlate t HI.out.2).mono ?_
              rintro e u207 ⟨rfl, hO'⟩
              refine hK.out _ _ hO'.oc (fun _ => ?_)
              clear hK K hHeld hO
              have hO := hO'
              have hHeld := hO.oc
              clear hO'
              refine wpAnyH_take (i := 8) (v := ?_) rfl (by kernel_rfl) (by kernel_rfl) (by kernel_rfl) (fun _ _ _ h => h) (Or.inl ⟨by kernel_rfl, ?hy8⟩) (by assumption) ?_
              case hy8 => (intro w hSw; (try dsimp only at hSw); have t1 := (Lib.cell_of_heap hSw 1).trans rfl; have t2 := (Lib.cell_of_heap hSw 2).trans rfl; go_simp; try with_reducible rfl)
              try simp only [Act.put, List.getElem_toArray, List.getElem_cons_zero, List.getElem_cons_succ, List.setIfInBounds_toArray, List.set_cons_zero, List.set_cons_succ]
              refine wpAnyH_take (i := 9) (v := ?_) rfl (by kernel_rfl) (by kernel_rfl) (by kernel_rfl) (fun _ _ _ h => h) (Or.inl ⟨by kernel_rfl, ?hy9⟩) (by assumption) ?_
              case hy9 => (intro w hSw; (try dsimp only at hSw); have t1 := (Lib.cell_of_heap hSw 1).trans rfl; have t2 := (Lib.cell_of_heap hSw 2).trans rfl; go_simp; try with_reducible rfl)
              try simp only [Act.put, List.getElem_toArray, List.getElem_cons_zero, List.getElem_cons_succ, List.setIfInBounds_toArray, List.set_cons_zero, List.set_cons_succ]
              refine wpAnyH_done (by kernel_rfl) ?_ _
              go_wp2_with fail
              go_meet
              exact ⟨rfl, _, hO⟩
          · have q2 : ((v : Int) == 2) = false := by rw [beq_eq_false_iff_ne]; omega
            have q3 : ((v : Int) == 3) = false := by rw [beq_eq_false_iff_ne]; omega
            have q4 : ((v : Int) == 4) = false := by rw [beq_eq_false_iff_ne]; omega
            as_aux_lemma =>
              go_upto_region 11 with fail
              replace hO := hO.drew
              have hHeld := hO.oc
              refine wp_region_held_drew (S := fun x => x.heap[g]? = some (.cells #[.int .i64 k, .int .i64 s, .int .i64 t] 29 (0, 0))) (by kernel_rfl) hHeld (fun _ => ?_)
              refine wpAnyH_take (i := 0) (v := ?_) rfl (by kernel_rfl) (by kernel_rfl) (by kernel_rfl) (fun _ _ _ h => h) (Or.inl ⟨by kernel_rfl, ?hy0⟩) (by assumption) ?_
              case hy0 => (intro w hSw; (try dsimp only at hSw); have t1 := (Lib.cell_of_heap hSw 1).trans rfl; have t2 := (Lib.cell_of_heap hSw 2).trans rfl; go_simp; try with_reducible rfl)
              try simp only [Act.put, List.getElem_toArray, List.getElem_cons_zero, List.setIfInBounds_toArray, List.set_cons_zero, List.set_cons_succ]
              refine wpAnyH_take (i := 1) (v := ?_) rfl (by kernel_rfl) (by kernel_rfl) (by kernel_rfl) (fun _ _ _ h => h) (Or.inl ⟨by kernel_rfl, ?hy1⟩) (by assumption) ?_
              case hy1 => (intro w hSw; (try dsimp only at hSw); have t1 := (Lib.cell_of_heap hSw 1).trans rfl; have t2 := (Lib.cell_of_heap hSw 2).trans rfl; go_simp; try with_reducible rfl)
              try simp only [Act.put, List.getElem_toArray, List.getElem_cons_zero, List.getElem_cons_succ, List.setIfInBounds_toArray, List.set_cons_zero, List.set_cons_succ]
              refine wpAnyH_take (i := 2) (v := ?_) rfl (by kernel_rfl) (by kernel_rfl) (by kernel_rfl) (fun _ _ _ h => h) (Or.inl ⟨by kernel_rfl, ?hy2⟩) (by assumption) ?_
              case hy2 => (intro w hSw; (try dsimp only at hSw); have t1 := (Lib.cell_of_heap hSw 1).trans rfl; have t2 := (Lib.cell_of_heap hSw 2).trans rfl; go_simp; try with_reducible rfl)
              try simp only [Act.put, List.getElem_toArray, List.getElem_cons_zero, List.getElem_cons_succ, List.setIfInBounds_toArray, List.set_cons_zero, List.set_cons_succ]
              refine wpAnyH_take (i := 3) (v := ?_) rfl (by kernel_rfl) (by kernel_rfl) (by kernel_rfl) (fun _ _ _ h => h) (Or.inl ⟨by kernel_rfl, ?hy3⟩) (by assumption) ?_
              case hy3 => (intro w hSw; (try dsimp only at hSw); have t1 := (Lib.cell_of_heap hSw 1).trans rfl; have t2 := (Lib.cell_of_heap hSw 2).trans rfl; go_simp; try with_reducible rfl)
              try simp only [Act.put, List.getElem_toArray, List.getElem_cons_zero, List.getElem_cons_succ, List.setIfInBounds_toArray, List.set_cons_zero, List.set_cons_succ]
              refine wpAnyH_take (i := 4) (v := ?_) rfl (by kernel_rfl) (by kernel_rfl) (by kernel_rfl) (fun _ _ _ h => h) (Or.inl ⟨by kernel_rfl, ?hy4⟩) (by assumption) ?_
              case hy4 => (intro w hSw; (try dsimp only at hSw); have t1 := (Lib.cell_of_heap hSw 1).trans rfl; have t2 := (Lib.cell_of_heap hSw 2).trans rfl; go_simp; try with_reducible rfl)
              try simp only [Act.put, List.getElem_toArray, List.getElem_cons_zero, List.getElem_cons_succ, List.setIfInBounds_toArray, List.set_cons_zero, List.set_cons_succ]
              refine wpAnyH_take (i := 6) (v := ?_) rfl (by kernel_rfl) (by kernel_rfl) (by kernel_rfl) (fun _ _ _ h => h) (Or.inl ⟨by kernel_rfl, ?hy6⟩) (by assumption) ?_
              case hy6 => (intro w hSw; (try dsimp only at hSw); have t1 := (Lib.cell_of_heap hSw 1).trans rfl; have t2 := (Lib.cell_of_heap hSw 2).trans rfl; go_simp; try with_reducible rfl)
              try simp only [Act.put, List.getElem_toArray, List.getElem_cons_zero, List.getElem_cons_succ, List.setIfInBounds_toArray, List.set_cons_zero, List.set_cons_succ]
              refine wpAnyH_take (i := 7) (v := ?_) rfl (by kernel_rfl) (by kernel_rfl) (by kernel_rfl) (fun _ _ _ h => h) (Or.inl ⟨by kernel_rfl, ?hy7⟩) (by assumption) ?_
              case hy7 => (intro w hSw; (try dsimp only at hSw); have t1 := (Lib.cell_of_heap hSw 1).trans rfl; have t2 := (Lib.cell_of_heap hSw 2).trans rfl; go_simp; try with_reducible rfl)
              try simp only [Act.put, List.getElem_toArray, List.getElem_cons_zero, List.getElem_cons_succ, List.setIfInBounds_toArray, List.set_cons_zero, List.set_cons_succ]
              refine wpAnyH_take (i := 8) (v := ?_) rfl (by kernel_rfl) (by kernel_rfl) (by kernel_rfl) (fun _ _ _ h => h) (Or.inl ⟨by kernel_rfl, ?hy8⟩) (by assumption) ?_
              case hy8 => (intro w hSw; (try dsimp only at hSw); have t1 := (Lib.cell_of_heap hSw 1).trans rfl; have t2 := (Lib.cell_of_heap hSw 2).trans rfl; go_simp; try with_reducible rfl)
              try simp only [Act.put, List.getElem_toArray, List.getElem_cons_zero, List.getElem_cons_succ, List.setIfInBounds_toArray, List.set_cons_zero, List.set_cons_succ]
              refine wpAnyH_take (i := 9) (v := ?_) rfl (by kernel_rfl) (by kernel_rfl) (by kernel_rfl) (fun _ _ _ h => h) (Or.inl ⟨by kernel_rfl, ?hy9⟩) (by assumption) ?_
              case hy9 => (intro w hSw; (try dsimp only at hSw); have t1 := (Lib.cell_of_heap hSw 1).trans rfl; have t2 := (Lib.cell_of_heap hSw 2).trans rfl; go_simp; try with_reducible rfl)
              try simp only [Act.put, List.getElem_toArray, List.getElem_cons_zero, List.getElem_cons_succ, List.setIfInBounds_toArray, List.set_cons_zero, List.set_cons_succ]
              refine wpAnyH_take (i := 10) (v := ?_) rfl (by kernel_rfl) (by kernel_rfl) (by kernel_rfl) (fun _ _ _ h => h) (Or.inl ⟨by kernel_rfl, ?hy10⟩) (by assumption) ?_
              case hy10 => (intro w hSw; (try dsimp only at hSw); have t1 := (Lib.cell_of_heap hSw 1).trans rfl; have t2 := (Lib.cell_of_heap hSw 2).trans rfl; go_simp; try with_reducible rfl)
              try simp only [Act.put, List.getElem_toArray, List.getElem_cons_zero, List.getElem_cons_succ, List.setIfInBounds_toArray, List.set_cons_zero, List.set_cons_succ]
              refine wpAnyH_ready (rs := [5]) (by kernel_rfl) (by simp) ?_
              refine AllReadyH.cons rfl (fun K hK => ?_) AllReadyH.nil
              go_simp
              go_wp2_with fail
              refine (hO.ask s t HI.out.1 HI.out.2).mono ?_
              rintro e u205 ⟨rfl, hO'⟩
              refine hK.out _ _ hO'.oc (fun _ => ?_)
              clear hK K hHeld hO
              have hO := hO'
              have hHeld := hO.oc
              clear hO'
              refine wpAnyH_ready (rs := [11]) (by kernel_rfl) (by simp) ?_
              refine AllReadyH.cons rfl (fun K hK => ?_) AllReadyH.nil
              go_simp
              go_wp2_with fail
              refine (hO.rask s t HI.out.1 HI.out.2).mono ?_
              rintro e u211 ⟨rfl, hO'⟩
              refine hK.out _ _ hO'.oc (fun _ => ?_)
              clear hK K hHeld hO
              have hO := hO'
              have hHeld := hO.oc
              clear hO'
              refine wpAnyH_take (i := 12) (v := ?_) rfl (by kernel_rfl) (by kernel_rfl) (by kernel_rfl) (fun _ _ _ h => h) (Or.inl ⟨by kernel_rfl, ?hy12⟩) (by assumption) ?_
              case hy12 => (intro w hSw; (try dsimp only at hSw); have t1 := (Lib.cell_of_heap hSw 1).trans rfl; have t2 := (Lib.cell_of_heap hSw 2).trans rfl; go_simp; try with_reducible rfl)
              try simp only [Act.put, List.getElem_toArray, List.getElem_cons_zero, List.getElem_cons_succ, List.setIfInBounds_toArray, List.set_cons_zero, List.set_cons_succ]
              refine wpAnyH_take (i := 13) (v := ?_) rfl (by kernel_rfl) (by kernel_rfl) (by kernel_rfl) (fun _ _ _ h => h) (Or.inl ⟨by kernel_rfl, ?hy13⟩) (by assumption) ?_
              case hy13 => (intro w hSw; (try dsimp only at hSw); have t1 := (Lib.cell_of_heap hSw 1).trans rfl; have t2 := (Lib.cell_of_heap hSw 2).trans rfl; go_simp; try with_reducible rfl)
              try simp only [Act.put, List.getElem_toArray, List.getElem_cons_zero, List.getElem_cons_succ, List.setIfInBounds_toArray, List.set_cons_zero, List.set_cons_succ]
              refine wpAnyH_done (by kernel_rfl) ?_ _
              go_wp2_with fail
              go_meet
              exact ⟨rfl, _, hO⟩
        case rest =>
          obtain ⟨rfl, o', hO'⟩ := hcut
          clear hO
          have HC := hid (pwaits_any hO'.b.p1)
          have HO := hid hO'.b
          have n1 : (pon o' != pon o') = false := by simp
          have n2 : (psr o' != psr o') = false := by simp
          clear hO'
          go_wp2_with fail
          refine HC.out.mono ?_
          rintro e w3 ⟨rfl, m, hm⟩
          have H3 := hid (HO.out.on (u := w3) (by rw [hm]; exact below_drewN (Below.refl _ _) m))
          obtain ⟨d0, d1, d2⟩ := H3.out.p2.cells
          have g0 := H3.out.p2.lt
          clear hm HC HO
          go_wp2
          go_roundw
          case rel => exact ⟨j + 1, o', by go_num, by omega, by omega, H3.out⟩
          case measure => simp [numOf]; omega
      · have HM := hid hk.bel
        clear hk
        by_cases h1 : j < n
        · have e1 : decide ((j : Int) < (n : Int)) = true := decide_eq_true (by omega)
          have e2 : decide ((j : Int) < 60) = false := decide_eq_false (by omega)
          go_wp2
          go_meet
          exact HM.out
        · have e1 : decide ((j : Int) < (n : Int)) = false := decide_eq_false (by omega)
          go_wp2
          go_meet
          exact HM.out
  case rest =>
    have HB := hid hcut
    clear hcut H2
    go_wp2_with fail
    refine (pawake_any _).mono ?_
    rintro e w2 ⟨rfl, h2⟩
    have HB2 := hid (Below.on HB.out h2)
    clear h2
    go_wp2
    go_ret
    exact ⟨rfl, HB2.out⟩
end Go.Proofs.Ythoonceohipikaa.pingPlays
