/- QueuePlays: for any number and any slice of calls the call returns true; nothing that was there has turned. -/
import Derived.Test.YtmcbbpcbebbjdaaDoorQuF
import Derived.Test.YtmcbbpcbebbjdaaDoorOpn25
import Derived.Test.YtmcbbpcbebbjdaaDoorLibS
import Derived.Deep.CutBlock
import Derived.Deep.DeepCutAuto
namespace Go.Proofs.YtmcbbpcbebbjdaaDoor.queuePlays
open Go Go.RowKit

theorem rd_low {w : World} {a : Option Addr} {n c : Nat} {l : List UInt8} (h : Rd w a n c l) : ∀ x, a = some x → 0 < l.length → x.block < w.heap.size := fun x hx hl => by
  obtain ⟨b, off, e, hbl, _⟩ := h.plain (by rw [← h.len]; exact hl)
  rw [hx] at e
  cases e
  exact hbl

/-- The document's cells. -/
theorem doc_cells {w0 w : World} {p q r : Nat} {l1 l2 : List UInt8} {c1 c2 : Bool} {X : List Nat} (h : Q2 w0 w p q r l1 c1 l2 c2 X) : w.heap[q]? = some (.cells #[.int .i64 (r : Nat), .string (qst l2), .bool c2] 35 (0, 0)) := h.qd.var

set_option maxRecDepth 100000 in
set_option maxHeartbeats 8000000 in
theorem core (most : Int) (a : Option Addr) (n c : Nat) (w : World) (hr : RdO w a n c) (es : List Addr) (hE : Errs w gerrs es) :
    Calls Tryd.prog 3 #[.int .i64 most, .slice a n c] w fun e w' => e = .returned (.bool true) ∧ Below w.heap.size w w' := by
  have HE := hid hE
  have HR := hid hr
  have hn : n ≤ 9223372036854775807 := by have := Nat.le_trans hr.le hr.max; simp only [maxLen] at this; omega
  have hnc := hr.le
  clear hr hE
  go_enter Tryd.func3, Tryd.ntmps3
  go_wp2_with fail
  refine (qw_new w w (Below.refl _ _) most).mono ?_
  rintro e w1 ⟨rfl, hb1, hQ⟩
  have HQ1 := hid hQ
  clear hQ hb1
  go_wp2_with fail
  refine (qdnew_any w1 most).mono ?_
  rintro e w2 ⟨rfl, hw2⟩
  have HQ : Hid (Q2 w w2 w.heap.size w1.heap.size (qroom most) [] false [] false []) := by
    have hb : Below w1.heap.size w1 w2 := by rw [hw2]; exact (Below.refl _ _).alloc (Nat.le_refl _) _
    have hs := HQ1.out.bel.size
    refine ⟨HQ1.out.more hb ⟨Nat.le_refl _, by rw [hw2]; simp⟩, ⟨?_, Nat.zero_le _, qroom_le most⟩, by omega, by simp⟩
    rw [hw2]
    exact heap_alloc_new w1 _
  clear hw2 HQ1
  generalize w1.heap.size = q at HQ ⊢
  generalize qroom most = r at HQ
  generalize hp : w.heap.size = p at HQ ⊢
  go_upto_block 0 with fail
  go_cut [] (fun wc => RowKit.Below w.heap.size w wc)
  case first =>
    go_wp2
    go_loopw [7] (fun i wr => ∃ (j : Nat) (l : List UInt8) (cl : Bool), i = .int .i64 j ∧ j ≤ n ∧ j ≤ 60 ∧ Q2 w wr p q r l cl l cl []) (fun i _ => n - (numOf i).toNat)
    case atStart => exact ⟨0, [], false, rfl, by omega, by omega, HQ.out⟩
    case round =>
      obtain ⟨j, l, cl, rfl, hj, hj60, hQ⟩ := hrel
      clear HQ
      by_cases hgo : j < n ∧ j < 60
      · obtain ⟨hgo1, hgo2⟩ := hgo
        have e1 : decide ((j : Int) < (n : Int)) = true := decide_eq_true (by omega)
        have e2 : decide ((j : Int) < 60) = true := decide_eq_true (by omega)
        have e3 : (j : Int) < (n : Int) := by omega
        obtain ⟨bl, off, k0, k1, a', m, c', b, rfl, hbl, d0, d1, d2, hrd, i0, i1⟩ := HR.out.each j hgo1
        rw [← hQ.bel.cell hbl] at d0 d1 d2
        have hbl' : bl < wr.heap.size := World.block_lt_of_cell? wr _ d0
        have HB := hid hrd
        have CP := hid (fun u => place_any k0 6 i0 (by omega) (by omega) u)
        have hv := plc_lt k0 6 (by omega)
        obtain ⟨v, hv'⟩ : ∃ v, v = plc k0 6 := ⟨_, rfl⟩
        rw [← hv'] at CP hv
        have hO := hQ.qo #[.int .i64 k0, .int .i64 k1, .slice a' m c']
        clear hv' hQ hrd i0
        go_upto_region 9 with fail
        generalize wr.alloc (.cells #[.int .i64 k0, .int .i64 k1, .slice a' m c'] 29) = X1 at *
        generalize wr.heap.size = g at *
        have t0 : X1.cell? ⟨g, 0, none⟩ = some (.int .i64 k0) := (Lib.cell_of_heap hO.oc 0).trans rfl
        have t2 : X1.cell? ⟨g, 2, none⟩ = some (.slice a' m c') := (Lib.cell_of_heap hO.oc 2).trans rfl
        have lg := hO.lt
        by_cases hbig : 3000 < m
        · have f1 : decide (3000 < (m : Int)) = true := decide_eq_true (by omega)
          have HW := hid (qawake_any X1 es (HE.out.below hO.b.bel))
          have HBE := hid hO.b.bel
          clear hO CP
          go_wp2_with fail
          refine HW.out.mono ?_
          rintro e w3 ⟨rfl, hb⟩
          have HF := hid (Below.on HBE.out hb)
          clear HBE hb HW
          go_wp2
          go_ret
          exact ⟨rfl, HF.out⟩
        · have f1 : decide (3000 < (m : Int)) = false := decide_eq_false (by omega)
          go_wp2_with fail
          refine (CP.out _).mono ?_
          rintro e X1 ⟨rfl, rfl⟩
          clear t0 t2 lg CP d0 d1 d2 hbl
          go_upto_block 2 with fail
          go_cut [9] (fun ok wx => ok = .bool true ∧ ∃ l' cl', Qo w wx p q r l' cl' l' cl' g #[.int .i64 k0, .int .i64 k1, .slice a' m c'])
          case first =>
            obtain rfl | rfl | rfl | h8 : v = 3 ∨ v = 4 ∨ v = 5 ∨ (v ≠ 3 ∧ v ≠ 4 ∧ v ≠ 5) := by omega
            · as_aux_lemma =>
                go_upto_region 16 with fail
                replace hO := hO.drew
                have hHeld := hO.oc
                refine wp_region_held_drew (S := fun x => x.heap[g]? = some (.cells #[.int .i64 k0, .int .i64 k1, .slice a' m c'] 29 (0, 0))) (by kernel_rfl) hHeld (fun _ => ?_)
                refine wpAnyH_take (i := 0) (v := ?_) rfl (by kernel_rfl) (by kernel_rfl) (by kernel_rfl) (fun _ _ _ h => h) (Or.inl ⟨by kernel_rfl, ?hy0⟩) (by assumption) ?_
                case hy0 => (intro w hSw; (try dsimp only at hSw); (try obtain ⟨hSw, hRw⟩ := hSw); have t1 := (Lib.cell_of_heap hSw 1).trans rfl; (try have t3 := hRw.conv (P := Tryd.prog) 27 9 5 Tryd.underlying27 Tryd.underlying5 Tryd.underlying9); (try change (convert _ _ _).run _ _ = .ok (.string (qst (l.take (qtk l k1)))) _ at t3); go_simp; try with_reducible rfl)
                try simp only [Act.put, List.getElem_toArray, List.getElem_cons_zero, List.setIfInBounds_toArray, List.set_cons_zero, List.set_cons_succ]
                refine wpAnyH_take (i := 1) (v := ?_) rfl (by kernel_rfl) (by kernel_rfl) (by kernel_rfl) (fun _ _ _ h => h) (Or.inl ⟨by kernel_rfl, ?hy1⟩) (by assumption) ?_
                case hy1 => (intro w hSw; (try dsimp only at hSw); (try obtain ⟨hSw, hRw⟩ := hSw); have t1 := (Lib.cell_of_heap hSw 1).trans rfl; (try have t3 := hRw.conv (P := Tryd.prog) 27 9 5 Tryd.underlying27 Tryd.underlying5 Tryd.underlying9); (try change (convert _ _ _).run _ _ = .ok (.string (qst (l.take (qtk l k1)))) _ at t3); go_simp; try with_reducible rfl)
                try simp only [Act.put, List.getElem_toArray, List.getElem_cons_zero, List.getElem_cons_succ, List.setIfInBounds_toArray, List.set_cons_zero, List.set_cons_succ]
                refine wpAnyH_take (i := 2) (v := ?_) rfl (by kernel_rfl) (by kernel_rfl) (by kernel_rfl) (fun _ _ _ h => h) (Or.inl ⟨by kernel_rfl, ?hy2⟩) (by assumption) ?_
                case hy2 => (intro w hSw; (try dsimp only at hSw); (try obtain ⟨hSw, hRw⟩ := hSw); have t1 := (Lib.cell_of_heap hSw 1).trans rfl; (try have t3 := hRw.conv (P := Tryd.prog) 27 9 5 Tryd.underlying27 Tryd.underlying5 Tryd.underlying9); (try change (convert _ _ _).run _ _ = .ok (.string (qst (l.take (qtk l k1)))) _ at t3); go_simp; try with_reducible rfl)
                try simp only [Act.put, List.getElem_toArray, List.getElem_cons_zero, List.getElem_cons_succ, List.setIfInBounds_toArray, List.set_cons_zero, List.set_cons_succ]
                refine wpAnyH_take (i := 5) (v := ?_) rfl (by kernel_rfl) (by kernel_rfl) (by kernel_rfl) (fun _ _ _ h => h) (Or.inl ⟨by kernel_rfl, ?hy5⟩) (by assumption) ?_
                case hy5 => (intro w hSw; (try dsimp only at hSw); (try obtain ⟨hSw, hRw⟩ := hSw); have t1 := (Lib.cell_of_heap hSw 1).trans rfl; (try have t3 := hRw.conv (P := Tryd.prog) 27 9 5 Tryd.underlying27 Tryd.underlying5 Tryd.underlying9); (try change (convert _ _ _).run _ _ = .ok (.string (qst (l.take (qtk l k1)))) _ at t3); go_simp; try with_reducible rfl)
                try simp only [Act.put, List.getElem_toArray, List.getElem_cons_zero, List.getElem_cons_succ, List.setIfInBounds_toArray, List.set_cons_zero, List.set_cons_succ]
                refine wpAnyH_take (i := 6) (v := ?_) rfl (by kernel_rfl) (by kernel_rfl) (by kernel_rfl) (fun _ _ _ h => h) (Or.inl ⟨by kernel_rfl, ?hy6⟩) (by assumption) ?_
                case hy6 => (intro w hSw; (try dsimp only at hSw); (try obtain ⟨hSw, hRw⟩ := hSw); have t1 := (Lib.cell_of_heap hSw 1).trans rfl; (try have t3 := hRw.conv (P := Tryd.prog) 27 9 5 Tryd.underlying27 Tryd.underlying5 Tryd.underlying9); (try change (convert _ _ _).run _ _ = .ok (.string (qst (l.take (qtk l k1)))) _ at t3); go_simp; try with_reducible rfl)
                try simp only [Act.put, List.getElem_toArray, List.getElem_cons_zero, List.getElem_cons_succ, List.setIfInBounds_toArray, List.set_cons_zero, List.set_cons_succ]
                refine wpAnyH_take (i := 7) (v := ?_) rfl (by kernel_rfl) (by kernel_rfl) (by kernel_rfl) (fun _ _ _ h => h) (Or.inl ⟨by kernel_rfl, ?hy7⟩) (by assumption) ?_
                case hy7 => (intro w hSw; (try dsimp only at hSw); (try obtain ⟨hSw, hRw⟩ := hSw); have t1 := (Lib.cell_of_heap hSw 1).trans rfl; (try have t3 := hRw.conv (P := Tryd.prog) 27 9 5 Tryd.underlying27 Tryd.underlying5 Tryd.underlying9); (try change (convert _ _ _).run _ _ = .ok (.string (qst (l.take (qtk l k1)))) _ at t3); go_simp; try with_reducible rfl)
                try simp only [Act.put, List.getElem_toArray, List.getElem_cons_zero, List.getElem_cons_succ, List.setIfInBounds_toArray, List.set_cons_zero, List.set_cons_succ]
                refine wpAnyH_ready (rs := [3]) (by kernel_rfl) (by simp) ?_
                refine AllReadyH.cons rfl (fun K hK => ?_) AllReadyH.nil
                go_simp
                go_wp2_with fail
                refine (hO.take k1).mono ?_
                rintro e u203 ⟨t, rfl, hO'⟩
                refine hK.out _ _ hO'.o.oc (fun _ => ?_)
                clear hK K hHeld hO
                have hO := hO'
                have hHeld := hO.oc
                clear hO'
                refine wpAnyH_mono (S' := TkS g #[.int .i64 k0, .int .i64 k1, .slice a' m c'] t (qtk l k1) (l.take (qtk l k1))) (fun _ h => h.1) ?_
                refine wpAnyH_take (i := 4) (v := ?_) rfl (by kernel_rfl) (by kernel_rfl) (by kernel_rfl) (fun _ _ _ h => h) (Or.inl ⟨by kernel_rfl, ?hy4⟩) (by assumption) ?_
                case hy4 => (intro w hSw; (try dsimp only at hSw); (try obtain ⟨hSw, hRw⟩ := hSw); have t1 := (Lib.cell_of_heap hSw 1).trans rfl; (try have t3 := hRw.conv (P := Tryd.prog) 27 9 5 Tryd.underlying27 Tryd.underlying5 Tryd.underlying9); (try change (convert _ _ _).run _ _ = .ok (.string (qst (l.take (qtk l k1)))) _ at t3); go_simp; try with_reducible rfl)
                try simp only [Act.put, List.getElem_toArray, List.getElem_cons_zero, List.getElem_cons_succ, List.setIfInBounds_toArray, List.set_cons_zero, List.set_cons_succ]
                refine wpAnyH_ready (rs := [8]) (by kernel_rfl) (by simp) ?_
                refine AllReadyH.cons rfl (fun K hK => ?_) AllReadyH.nil
                go_simp
                go_wp2_with fail
                refine (hO.rtake k1).mono ?_
                rintro e u208 ⟨rfl, hO'⟩
                refine hK.out _ _ hO'.oc (fun _ => ?_)
                clear hK K hHeld hO
                have hO := hO'
                have hHeld := hO.oc
                clear hO'
                refine wpAnyH_take (i := 9) (v := ?_) rfl (by kernel_rfl) (by kernel_rfl) (by kernel_rfl) (fun _ _ _ h => h) (Or.inl ⟨by kernel_rfl, ?hy9⟩) (by assumption) ?_
                case hy9 => (intro w hSw; (try dsimp only at hSw); (try obtain ⟨hSw, hRw⟩ := hSw); have t1 := (Lib.cell_of_heap hSw 1).trans rfl; (try have t3 := hRw.conv (P := Tryd.prog) 27 9 5 Tryd.underlying27 Tryd.underlying5 Tryd.underlying9); (try change (convert _ _ _).run _ _ = .ok (.string (qst (l.take (qtk l k1)))) _ at t3); go_simp; try with_reducible rfl)
                try simp only [Act.put, List.getElem_toArray, List.getElem_cons_zero, List.getElem_cons_succ, List.setIfInBounds_toArray, List.set_cons_zero, List.set_cons_succ]
                refine wpAnyH_take (i := 10) (v := ?_) rfl (by kernel_rfl) (by kernel_rfl) (by kernel_rfl) (fun _ _ _ h => h) (Or.inl ⟨by kernel_rfl, ?hy10⟩) (by assumption) ?_
                case hy10 => (intro w hSw; (try dsimp only at hSw); (try obtain ⟨hSw, hRw⟩ := hSw); have t1 := (Lib.cell_of_heap hSw 1).trans rfl; (try have t3 := hRw.conv (P := Tryd.prog) 27 9 5 Tryd.underlying27 Tryd.underlying5 Tryd.underlying9); (try change (convert _ _ _).run _ _ = .ok (.string (qst (l.take (qtk l k1)))) _ at t3); go_simp; try with_reducible rfl)
                try simp only [Act.put, List.getElem_toArray, List.getElem_cons_zero, List.getElem_cons_succ, List.setIfInBounds_toArray, List.set_cons_zero, List.set_cons_succ]
                refine wpAnyH_done (by kernel_rfl) ?_ _
                go_wp2_with fail
                go_meet
                exact ⟨rfl, _, _, hO.o⟩
            · as_aux_lemma =>
                go_upto_region 16 with fail
                replace hO := hO.drew
                have hHeld := hO.oc
                refine wp_region_held_drew (S := fun x => x.heap[g]? = some (.cells #[.int .i64 k0, .int .i64 k1, .slice a' m c'] 29 (0, 0))) (by kernel_rfl) hHeld (fun _ => ?_)
                refine wpAnyH_take (i := 0) (v := ?_) rfl (by kernel_rfl) (by kernel_rfl) (by kernel_rfl) (fun _ _ _ h => h) (Or.inl ⟨by kernel_rfl, ?hy0⟩) (by assumption) ?_
                case hy0 => (intro w hSw; (try dsimp only at hSw); (try obtain ⟨hSw, hRw⟩ := hSw); have t1 := (Lib.cell_of_heap hSw 1).trans rfl; (try have t3 := hRw.conv (P := Tryd.prog) 27 9 5 Tryd.underlying27 Tryd.underlying5 Tryd.underlying9); (try change (convert _ _ _).run _ _ = .ok (.string (qst (l.take (qtk l k1)))) _ at t3); go_simp; try with_reducible rfl)
                try simp only [Act.put, List.getElem_toArray, List.getElem_cons_zero, List.setIfInBounds_toArray, List.set_cons_zero, List.set_cons_succ]
                refine wpAnyH_take (i := 1) (v := ?_) rfl (by kernel_rfl) (by kernel_rfl) (by kernel_rfl) (fun _ _ _ h => h) (Or.inl ⟨by kernel_rfl, ?hy1⟩) (by assumption) ?_
                case hy1 => (intro w hSw; (try dsimp only at hSw); (try obtain ⟨hSw, hRw⟩ := hSw); have t1 := (Lib.cell_of_heap hSw 1).trans rfl; (try have t3 := hRw.conv (P := Tryd.prog) 27 9 5 Tryd.underlying27 Tryd.underlying5 Tryd.underlying9); (try change (convert _ _ _).run _ _ = .ok (.string (qst (l.take (qtk l k1)))) _ at t3); go_simp; try with_reducible rfl)
                try simp only [Act.put, List.getElem_toArray, List.getElem_cons_zero, List.getElem_cons_succ, List.setIfInBounds_toArray, List.set_cons_zero, List.set_cons_succ]
                refine wpAnyH_take (i := 2) (v := ?_) rfl (by kernel_rfl) (by kernel_rfl) (by kernel_rfl) (fun _ _ _ h => h) (Or.inl ⟨by kernel_rfl, ?hy2⟩) (by assumption) ?_
                case hy2 => (intro w hSw; (try dsimp only at hSw); (try obtain ⟨hSw, hRw⟩ := hSw); have t1 := (Lib.cell_of_heap hSw 1).trans rfl; (try have t3 := hRw.conv (P := Tryd.prog) 27 9 5 Tryd.underlying27 Tryd.underlying5 Tryd.underlying9); (try change (convert _ _ _).run _ _ = .ok (.string (qst (l.take (qtk l k1)))) _ at t3); go_simp; try with_reducible rfl)
                try simp only [Act.put, List.getElem_toArray, List.getElem_cons_zero, List.getElem_cons_succ, List.setIfInBounds_toArray, List.set_cons_zero, List.set_cons_succ]
                refine wpAnyH_take (i := 5) (v := ?_) rfl (by kernel_rfl) (by kernel_rfl) (by kernel_rfl) (fun _ _ _ h => h) (Or.inl ⟨by kernel_rfl, ?hy5⟩) (by assumption) ?_
                case hy5 => (intro w hSw; (try dsimp only at hSw); (try obtain ⟨hSw, hRw⟩ := hSw); have t1 := (Lib.cell_of_heap hSw 1).trans rfl; (try have t3 := hRw.conv (P := Tryd.prog) 27 9 5 Tryd.underlying27 Tryd.underlying5 Tryd.underlying9); (try change (convert _ _ _).run _ _ = .ok (.string (qst (l.take (qtk l k1)))) _ at t3); go_simp; try with_reducible rfl)
                try simp only [Act.put, List.getElem_toArray, List.getElem_cons_zero, List.getElem_cons_succ, List.setIfInBounds_toArray, List.set_cons_zero, List.set_cons_succ]
                refine wpAnyH_take (i := 6) (v := ?_) rfl (by kernel_rfl) (by kernel_rfl) (by kernel_rfl) (fun _ _ _ h => h) (Or.inl ⟨by kernel_rfl, ?hy6⟩) (by assumption) ?_
                case hy6 => (intro w hSw; (try dsimp only at hSw); (try obtain ⟨hSw, hRw⟩ := hSw); have t1 := (Lib.cell_of_heap hSw 1).trans rfl; (try have t3 := hRw.conv (P := Tryd.prog) 27 9 5 Tryd.underlying27 Tryd.underlying5 Tryd.underlying9); (try change (convert _ _ _).run _ _ = .ok (.string (qst (l.take (qtk l k1)))) _ at t3); go_simp; try with_reducible rfl)
                try simp only [Act.put, List.getElem_toArray, List.getElem_cons_zero, List.getElem_cons_succ, List.setIfInBounds_toArray, List.set_cons_zero, List.set_cons_succ]
                refine wpAnyH_take (i := 7) (v := ?_) rfl (by kernel_rfl) (by kernel_rfl) (by kernel_rfl) (fun _ _ _ h => h) (Or.inl ⟨by kernel_rfl, ?hy7⟩) (by assumption) ?_
                case hy7 => (intro w hSw; (try dsimp only at hSw); (try obtain ⟨hSw, hRw⟩ := hSw); have t1 := (Lib.cell_of_heap hSw 1).trans rfl; (try have t3 := hRw.conv (P := Tryd.prog) 27 9 5 Tryd.underlying27 Tryd.underlying5 Tryd.underlying9); (try change (convert _ _ _).run _ _ = .ok (.string (qst (l.take (qtk l k1)))) _ at t3); go_simp; try with_reducible rfl)
                try simp only [Act.put, List.getElem_toArray, List.getElem_cons_zero, List.getElem_cons_succ, List.setIfInBounds_toArray, List.set_cons_zero, List.set_cons_succ]
                refine wpAnyH_ready (rs := [3]) (by kernel_rfl) (by simp) ?_
                refine AllReadyH.cons rfl (fun K hK => ?_) AllReadyH.nil
                go_simp
                go_wp2_with fail
                refine (hO.take k1).mono ?_
                rintro e u203 ⟨t, rfl, hO'⟩
                refine hK.out _ _ hO'.o.oc (fun _ => ?_)
                clear hK K hHeld hO
                have hO := hO'
                have hHeld := hO.oc
                clear hO'
                refine wpAnyH_mono (S' := TkS g #[.int .i64 k0, .int .i64 k1, .slice a' m c'] t (qtk l k1) (l.take (qtk l k1))) (fun _ h => h.1) ?_
                refine wpAnyH_take (i := 4) (v := ?_) rfl (by kernel_rfl) (by kernel_rfl) (by kernel_rfl) (fun _ _ _ h => h) (Or.inl ⟨by kernel_rfl, ?hy4⟩) (by assumption) ?_
                case hy4 => (intro w hSw; (try dsimp only at hSw); (try obtain ⟨hSw, hRw⟩ := hSw); have t1 := (Lib.cell_of_heap hSw 1).trans rfl; (try have t3 := hRw.conv (P := Tryd.prog) 27 9 5 Tryd.underlying27 Tryd.underlying5 Tryd.underlying9); (try change (convert _ _ _).run _ _ = .ok (.string (qst (l.take (qtk l k1)))) _ at t3); go_simp; try with_reducible rfl)
                try simp only [Act.put, List.getElem_toArray, List.getElem_cons_zero, List.getElem_cons_succ, List.setIfInBounds_toArray, List.set_cons_zero, List.set_cons_succ]
                refine wpAnyH_ready (rs := [8]) (by kernel_rfl) (by simp) ?_
                refine AllReadyH.cons rfl (fun K hK => ?_) AllReadyH.nil
                go_simp
                go_wp2_with fail
                refine (hO.rtake k1).mono ?_
                rintro e u208 ⟨rfl, hO'⟩
                refine hK.out _ _ hO'.oc (fun _ => ?_)
                clear hK K hHeld hO
                have hO := hO'
                have hHeld := hO.oc
                clear hO'
                refine wpAnyH_take (i := 9) (v := ?_) rfl (by kernel_rfl) (by kernel_rfl) (by kernel_rfl) (fun _ _ _ h => h) (Or.inl ⟨by kernel_rfl, ?hy9⟩) (by assumption) ?_
                case hy9 => (intro w hSw; (try dsimp only at hSw); (try obtain ⟨hSw, hRw⟩ := hSw); have t1 := (Lib.cell_of_heap hSw 1).trans rfl; (try have t3 := hRw.conv (P := Tryd.prog) 27 9 5 Tryd.underlying27 Tryd.underlying5 Tryd.underlying9); (try change (convert _ _ _).run _ _ = .ok (.string (qst (l.take (qtk l k1)))) _ at t3); go_simp; try with_reducible rfl)
                try simp only [Act.put, List.getElem_toArray, List.getElem_cons_zero, List.getElem_cons_succ, List.setIfInBounds_toArray, List.set_cons_zero, List.set_cons_succ]
                refine wpAnyH_take (i := 10) (v := ?_) rfl (by kernel_rfl) (by kernel_rfl) (by kernel_rfl) (fun _ _ _ h => h) (Or.inl ⟨by kernel_rfl, ?hy10⟩) (by assumption) ?_
                case hy10 => (intro w hSw; (try dsimp only at hSw); (try obtain ⟨hSw, hRw⟩ := hSw); have t1 := (Lib.cell_of_heap hSw 1).trans rfl; (try have t3 := hRw.conv (P := Tryd.prog) 27 9 5 Tryd.underlying27 Tryd.underlying5 Tryd.underlying9); (try change (convert _ _ _).run _ _ = .ok (.string (qst (l.take (qtk l k1)))) _ at t3); go_simp; try with_reducible rfl)
                try simp only [Act.put, List.getElem_toArray, List.getElem_cons_zero, List.getElem_cons_succ, List.setIfInBounds_toArray, List.set_cons_zero, List.set_cons_succ]
                refine wpAnyH_done (by kernel_rfl) ?_ _
                go_wp2_with fail
                go_meet
                exact ⟨rfl, _, _, hO.o⟩
            · as_aux_lemma =>
                go_wp2_with fail
                refine hO.close.mono ?_
                rintro e w3 ⟨rfl, hO3⟩
                have hq := hO3.b.qd.lt
                have hc := hO3.b.qd.cell2
                have hfr : ∀ j, w3.frozen? ⟨q, j, none⟩ = false := Lib.frozen_of_heap hO3.b.qd.var
                have HO := hid hO3.rclose
                clear hO hO3
                go_wp2
                go_meet
                exact ⟨rfl, _, _, HO.out⟩
            · have q3 : ((v : Int) == 3) = false := by rw [beq_eq_false_iff_ne]; omega
              have q4 : ((v : Int) == 4) = false := by rw [beq_eq_false_iff_ne]; omega
              have q5 : ((v : Int) == 5) = false := by rw [beq_eq_false_iff_ne]; omega
              as_aux_lemma =>
                go_upto_region 13 with fail
                replace hO := hO.drew
                have hHeld := hO.oc
                refine wp_region_held_drew (S := fun x => x.heap[g]? = some (.cells #[.int .i64 k0, .int .i64 k1, .slice a' m c'] 29 (0, 0))) (by kernel_rfl) hHeld (fun _ => ?_)
                refine wpAnyH_take (i := 0) (v := ?_) rfl (by kernel_rfl) (by kernel_rfl) (by kernel_rfl) (fun _ _ _ h => h) (Or.inl ⟨by kernel_rfl, ?hy0⟩) (by assumption) ?_
                case hy0 => (intro w hSw; (try dsimp only at hSw); have t2 := (Lib.cell_of_heap hSw 2).trans rfl; go_simp; try with_reducible rfl)
                try simp only [Act.put, List.getElem_toArray, List.getElem_cons_zero, List.setIfInBounds_toArray, List.set_cons_zero, List.set_cons_succ]
                refine wpAnyH_take (i := 1) (v := ?_) rfl (by kernel_rfl) (by kernel_rfl) (by kernel_rfl) (fun _ _ _ h => h) (Or.inl ⟨by kernel_rfl, ?hy1⟩) (by assumption) ?_
                case hy1 => (intro w hSw; (try dsimp only at hSw); have t2 := (Lib.cell_of_heap hSw 2).trans rfl; go_simp; try with_reducible rfl)
                try simp only [Act.put, List.getElem_toArray, List.getElem_cons_zero, List.getElem_cons_succ, List.setIfInBounds_toArray, List.set_cons_zero, List.set_cons_succ]
                refine wpAnyH_take (i := 2) (v := ?_) rfl (by kernel_rfl) (by kernel_rfl) (by kernel_rfl) (fun _ _ _ h => h) (Or.inl ⟨by kernel_rfl, ?hy2⟩) (by assumption) ?_
                case hy2 => (intro w hSw; (try dsimp only at hSw); have t2 := (Lib.cell_of_heap hSw 2).trans rfl; go_simp; try with_reducible rfl)
                try simp only [Act.put, List.getElem_toArray, List.getElem_cons_zero, List.getElem_cons_succ, List.setIfInBounds_toArray, List.set_cons_zero, List.set_cons_succ]
                refine wpAnyH_take (i := 6) (v := ?_) rfl (by kernel_rfl) (by kernel_rfl) (by kernel_rfl) (fun _ _ _ h => h) (Or.inl ⟨by kernel_rfl, ?hy6⟩) (by assumption) ?_
                case hy6 => (intro w hSw; (try dsimp only at hSw); have t2 := (Lib.cell_of_heap hSw 2).trans rfl; go_simp; try with_reducible rfl)
                try simp only [Act.put, List.getElem_toArray, List.getElem_cons_zero, List.getElem_cons_succ, List.setIfInBounds_toArray, List.set_cons_zero, List.set_cons_succ]
                refine wpAnyH_take (i := 7) (v := ?_) rfl (by kernel_rfl) (by kernel_rfl) (by kernel_rfl) (fun _ _ _ h => h) (Or.inl ⟨by kernel_rfl, ?hy7⟩) (by assumption) ?_
                case hy7 => (intro w hSw; (try dsimp only at hSw); have t2 := (Lib.cell_of_heap hSw 2).trans rfl; go_simp; try with_reducible rfl)
                try simp only [Act.put, List.getElem_toArray, List.getElem_cons_zero, List.getElem_cons_succ, List.setIfInBounds_toArray, List.set_cons_zero, List.set_cons_succ]
                refine wpAnyH_take (i := 8) (v := ?_) rfl (by kernel_rfl) (by kernel_rfl) (by kernel_rfl) (fun _ _ _ h => h) (Or.inl ⟨by kernel_rfl, ?hy8⟩) (by assumption) ?_
                case hy8 => (intro w hSw; (try dsimp only at hSw); have t2 := (Lib.cell_of_heap hSw 2).trans rfl; go_simp; try with_reducible rfl)
                try simp only [Act.put, List.getElem_toArray, List.getElem_cons_zero, List.getElem_cons_succ, List.setIfInBounds_toArray, List.set_cons_zero, List.set_cons_succ]
                refine wpAnyH_ready (rs := [3]) (by kernel_rfl) (by simp) ?_
                refine AllReadyH.cons rfl (fun K hK => ?_) AllReadyH.nil
                go_simp
                go_wp2_with fail
                refine (hO.bytes a' m c' b (HB.out.below hO.b.bel (rd_low HB.out)) (by omega)).mono ?_
                rintro e u203 ⟨ab, cb, rfl, hrb, hO'⟩
                refine hK.out _ _ hO'.oc (fun _ => ?_)
                clear hK K hHeld hO
                have hO := hO'
                have HRX := hid hrb
                have hHeld := hO.oc
                clear hO' hrb
                refine wpAnyH_ready (rs := [4]) (by kernel_rfl) (by simp) ?_
                refine AllReadyH.cons rfl (fun K hK => ?_) AllReadyH.nil
                go_simp
                go_wp2_with fail
                refine (hO.put es HE.out ab m cb b HRX.out).mono ?_
                rintro e u204 ⟨rfl, hO'⟩
                refine hK.out _ _ hO'.oc (fun _ => ?_)
                clear hK K hHeld hO
                have hO := hO'
                have hHeld := hO.oc
                clear hO'
                refine wpAnyH_ready (rs := [5]) (by kernel_rfl) (by simp) ?_
                refine AllReadyH.cons rfl (fun K hK => ?_) AllReadyH.nil
                go_simp
                go_wp2_with fail
                refine (hO.kind es HE.out _ (putK_le _ _ _ _)).mono ?_
                rintro e u205 ⟨rfl, hO'⟩
                refine hK.out _ _ hO'.oc (fun _ => ?_)
                clear hK K hHeld hO
                have hO := hO'
                have hHeld := hO.oc
                clear hO'
                refine wpAnyH_ready (rs := [9]) (by kernel_rfl) (by simp) ?_
                refine AllReadyH.cons rfl (fun K hK => ?_) AllReadyH.nil
                go_simp
                go_wp2_with fail
                refine (hO.rput a' m c' b HB.out).mono ?_
                rintro e u209 ⟨rfl, hO'⟩
                refine hK.out _ _ hO'.oc (fun _ => ?_)
                clear hK K hHeld hO
                have hO := hO'
                have hHeld := hO.oc
                clear hO'
                refine wpAnyH_take (i := 10) (v := ?_) rfl (by kernel_rfl) (by kernel_rfl) (by kernel_rfl) (fun _ _ _ h => h) (Or.inl ⟨by kernel_rfl, ?hy10⟩) (by assumption) ?_
                case hy10 => (intro w hSw; (try dsimp only at hSw); have t2 := (Lib.cell_of_heap hSw 2).trans rfl; go_simp; try with_reducible rfl)
                try simp only [Act.put, List.getElem_toArray, List.getElem_cons_zero, List.getElem_cons_succ, List.setIfInBounds_toArray, List.set_cons_zero, List.set_cons_succ]
                refine wpAnyH_take (i := 11) (v := ?_) rfl (by kernel_rfl) (by kernel_rfl) (by kernel_rfl) (fun _ _ _ h => h) (Or.inl ⟨by kernel_rfl, ?hy11⟩) (by assumption) ?_
                case hy11 => (intro w hSw; (try dsimp only at hSw); have t2 := (Lib.cell_of_heap hSw 2).trans rfl; go_simp; try with_reducible rfl)
                try simp only [Act.put, List.getElem_toArray, List.getElem_cons_zero, List.getElem_cons_succ, List.setIfInBounds_toArray, List.set_cons_zero, List.set_cons_succ]
                refine wpAnyH_done (by kernel_rfl) ?_ _
                go_wp2_with fail
                go_meet
                exact ⟨rfl, _, _, hO⟩
          case rest =>
            obtain ⟨rfl, l', cl', hO'⟩ := hcut
            clear hO
            have hO := hO'.b.less
            have hsz := qst_size l'
            clear hO'
            go_upto_region 20 with fail
            replace hO := hO.on (Below.refl _ _).drew
            have hHeld := doc_cells hO
            refine wp_region_held_drew (S := fun x => x.heap[q]? = some (.cells #[.int .i64 (r : Nat), .string (qst l'), .bool cl'] 35 (0, 0))) (by kernel_rfl) hHeld (fun _ => ?_)
            refine wpAnyH_take (i := 0) (v := ?_) rfl (by kernel_rfl) (by kernel_rfl) (by kernel_rfl) (fun _ _ _ h => h) (Or.inl ⟨by kernel_rfl, ?hy0⟩) (by assumption) ?_
            case hy0 => (intro w hSw; (try dsimp only at hSw); have t1 := (Lib.cell_of_heap hSw 1).trans rfl; have t2 := (Lib.cell_of_heap hSw 2).trans rfl; go_simp; try with_reducible rfl)
            try simp only [Act.put, List.getElem_toArray, List.getElem_cons_zero, List.setIfInBounds_toArray, List.set_cons_zero, List.set_cons_succ]
            refine wpAnyH_take (i := 1) (v := ?_) rfl (by kernel_rfl) (by kernel_rfl) (by kernel_rfl) (fun _ _ _ h => h) (Or.inl ⟨by kernel_rfl, ?hy1⟩) (by assumption) ?_
            case hy1 => (intro w hSw; (try dsimp only at hSw); have t1 := (Lib.cell_of_heap hSw 1).trans rfl; have t2 := (Lib.cell_of_heap hSw 2).trans rfl; go_simp; try with_reducible rfl)
            try simp only [Act.put, List.getElem_toArray, List.getElem_cons_zero, List.getElem_cons_succ, List.setIfInBounds_toArray, List.set_cons_zero, List.set_cons_succ]
            refine wpAnyH_take (i := 2) (v := ?_) rfl (by kernel_rfl) (by kernel_rfl) (by kernel_rfl) (fun _ _ _ h => h) (Or.inl ⟨by kernel_rfl, ?hy2⟩) (by assumption) ?_
            case hy2 => (intro w hSw; (try dsimp only at hSw); have t1 := (Lib.cell_of_heap hSw 1).trans rfl; have t2 := (Lib.cell_of_heap hSw 2).trans rfl; go_simp; try with_reducible rfl)
            try simp only [Act.put, List.getElem_toArray, List.getElem_cons_zero, List.getElem_cons_succ, List.setIfInBounds_toArray, List.set_cons_zero, List.set_cons_succ]
            refine wpAnyH_take (i := 3) (v := ?_) rfl (by kernel_rfl) (by kernel_rfl) (by kernel_rfl) (fun _ _ _ h => h) (Or.inl ⟨by kernel_rfl, ?hy3⟩) (by assumption) ?_
            case hy3 => (intro w hSw; (try dsimp only at hSw); have t1 := (Lib.cell_of_heap hSw 1).trans rfl; have t2 := (Lib.cell_of_heap hSw 2).trans rfl; go_simp; try with_reducible rfl)
            try simp only [Act.put, List.getElem_toArray, List.getElem_cons_zero, List.getElem_cons_succ, List.setIfInBounds_toArray, List.set_cons_zero, List.set_cons_succ]
            refine wpAnyH_take (i := 5) (v := ?_) rfl (by kernel_rfl) (by kernel_rfl) (by kernel_rfl) (fun _ _ _ h => h) (Or.inl ⟨by kernel_rfl, ?hy5⟩) (by assumption) ?_
            case hy5 => (intro w hSw; (try dsimp only at hSw); have t1 := (Lib.cell_of_heap hSw 1).trans rfl; have t2 := (Lib.cell_of_heap hSw 2).trans rfl; go_simp; try with_reducible rfl)
            try simp only [Act.put, List.getElem_toArray, List.getElem_cons_zero, List.getElem_cons_succ, List.setIfInBounds_toArray, List.set_cons_zero, List.set_cons_succ]
            refine wpAnyH_take (i := 6) (v := ?_) rfl (by kernel_rfl) (by kernel_rfl) (by kernel_rfl) (fun _ _ _ h => h) (Or.inl ⟨by kernel_rfl, ?hy6⟩) (by assumption) ?_
            case hy6 => (intro w hSw; (try dsimp only at hSw); have t1 := (Lib.cell_of_heap hSw 1).trans rfl; have t2 := (Lib.cell_of_heap hSw 2).trans rfl; go_simp; try with_reducible rfl)
            try simp only [Act.put, List.getElem_toArray, List.getElem_cons_zero, List.getElem_cons_succ, List.setIfInBounds_toArray, List.set_cons_zero, List.set_cons_succ]
            refine wpAnyH_take (i := 7) (v := ?_) rfl (by kernel_rfl) (by kernel_rfl) (by kernel_rfl) (fun _ _ _ h => h) (Or.inl ⟨by kernel_rfl, ?hy7⟩) (by assumption) ?_
            case hy7 => (intro w hSw; (try dsimp only at hSw); have t1 := (Lib.cell_of_heap hSw 1).trans rfl; have t2 := (Lib.cell_of_heap hSw 2).trans rfl; go_simp; try with_reducible rfl)
            try simp only [Act.put, List.getElem_toArray, List.getElem_cons_zero, List.getElem_cons_succ, List.setIfInBounds_toArray, List.set_cons_zero, List.set_cons_succ]
            refine wpAnyH_take (i := 8) (v := ?_) rfl (by kernel_rfl) (by kernel_rfl) (by kernel_rfl) (fun _ _ _ h => h) (Or.inl ⟨by kernel_rfl, ?hy8⟩) (by assumption) ?_
            case hy8 => (intro w hSw; (try dsimp only at hSw); have t1 := (Lib.cell_of_heap hSw 1).trans rfl; have t2 := (Lib.cell_of_heap hSw 2).trans rfl; go_simp; try with_reducible rfl)
            try simp only [Act.put, List.getElem_toArray, List.getElem_cons_zero, List.getElem_cons_succ, List.setIfInBounds_toArray, List.set_cons_zero, List.set_cons_succ]
            refine wpAnyH_take (i := 9) (v := ?_) rfl (by kernel_rfl) (by kernel_rfl) (by kernel_rfl) (fun _ _ _ h => h) (Or.inl ⟨by kernel_rfl, ?hy9⟩) (by assumption) ?_
            case hy9 => (intro w hSw; (try dsimp only at hSw); have t1 := (Lib.cell_of_heap hSw 1).trans rfl; have t2 := (Lib.cell_of_heap hSw 2).trans rfl; go_simp; try with_reducible rfl)
            try simp only [Act.put, List.getElem_toArray, List.getElem_cons_zero, List.getElem_cons_succ, List.setIfInBounds_toArray, List.set_cons_zero, List.set_cons_succ]
            refine wpAnyH_ready (rs := [4]) (by kernel_rfl) (by simp) ?_
            refine AllReadyH.cons rfl (fun K hK => ?_) AllReadyH.nil
            go_simp
            go_wp2_with fail
            refine (hO.leng).mono ?_
            rintro e u204 ⟨rfl, rfl⟩
            refine hK.out _ _ hHeld (fun _ => ?_)
            clear hK K
            refine wpAnyH_take (i := 10) (v := ?_) rfl (by kernel_rfl) (by kernel_rfl) (by kernel_rfl) (fun _ _ _ h => h) (Or.inl ⟨by kernel_rfl, ?hy10⟩) (by assumption) ?_
            case hy10 => (intro w hSw; (try dsimp only at hSw); have t1 := (Lib.cell_of_heap hSw 1).trans rfl; have t2 := (Lib.cell_of_heap hSw 2).trans rfl; go_simp; try with_reducible rfl)
            try simp only [Act.put, List.getElem_toArray, List.getElem_cons_zero, List.getElem_cons_succ, List.setIfInBounds_toArray, List.set_cons_zero, List.set_cons_succ]
            refine wpAnyH_take (i := 11) (v := ?_) rfl (by kernel_rfl) (by kernel_rfl) (by kernel_rfl) (fun _ _ _ h => h) (Or.inl ⟨by kernel_rfl, ?hy11⟩) (by assumption) ?_
            case hy11 => (intro w hSw; (try dsimp only at hSw); have t1 := (Lib.cell_of_heap hSw 1).trans rfl; have t2 := (Lib.cell_of_heap hSw 2).trans rfl; go_simp; try with_reducible rfl)
            try simp only [Act.put, List.getElem_toArray, List.getElem_cons_zero, List.getElem_cons_succ, List.setIfInBounds_toArray, List.set_cons_zero, List.set_cons_succ]
            refine wpAnyH_take (i := 12) (v := ?_) rfl (by kernel_rfl) (by kernel_rfl) (by kernel_rfl) (fun _ _ _ h => h) (Or.inl ⟨by kernel_rfl, ?hy12⟩) (by assumption) ?_
            case hy12 => (intro w hSw; (try dsimp only at hSw); have t1 := (Lib.cell_of_heap hSw 1).trans rfl; have t2 := (Lib.cell_of_heap hSw 2).trans rfl; go_simp; try with_reducible rfl)
            try simp only [Act.put, List.getElem_toArray, List.getElem_cons_zero, List.getElem_cons_succ, List.setIfInBounds_toArray, List.set_cons_zero, List.set_cons_succ]
            refine wpAnyH_take (i := 13) (v := ?_) rfl (by kernel_rfl) (by kernel_rfl) (by kernel_rfl) (fun _ _ _ h => h) (Or.inl ⟨by kernel_rfl, ?hy13⟩) (by assumption) ?_
            case hy13 => (intro w hSw; (try dsimp only at hSw); have t1 := (Lib.cell_of_heap hSw 1).trans rfl; have t2 := (Lib.cell_of_heap hSw 2).trans rfl; go_simp; try with_reducible rfl)
            try simp only [Act.put, List.getElem_toArray, List.getElem_cons_zero, List.getElem_cons_succ, List.setIfInBounds_toArray, List.set_cons_zero, List.set_cons_succ]
            refine wpAnyH_take (i := 15) (v := ?_) rfl (by kernel_rfl) (by kernel_rfl) (by kernel_rfl) (fun _ _ _ h => h) (Or.inl ⟨by kernel_rfl, ?hy15⟩) (by assumption) ?_
            case hy15 => (intro w hSw; (try dsimp only at hSw); have t1 := (Lib.cell_of_heap hSw 1).trans rfl; have t2 := (Lib.cell_of_heap hSw 2).trans rfl; go_simp; try with_reducible rfl)
            try simp only [Act.put, List.getElem_toArray, List.getElem_cons_zero, List.getElem_cons_succ, List.setIfInBounds_toArray, List.set_cons_zero, List.set_cons_succ]
            refine wpAnyH_take (i := 16) (v := ?_) rfl (by kernel_rfl) (by kernel_rfl) (by kernel_rfl) (fun _ _ _ h => h) (Or.inl ⟨by kernel_rfl, ?hy16⟩) (by assumption) ?_
            case hy16 => (intro w hSw; (try dsimp only at hSw); have t1 := (Lib.cell_of_heap hSw 1).trans rfl; have t2 := (Lib.cell_of_heap hSw 2).trans rfl; go_simp; try with_reducible rfl)
            try simp only [Act.put, List.getElem_toArray, List.getElem_cons_zero, List.getElem_cons_succ, List.setIfInBounds_toArray, List.set_cons_zero, List.set_cons_succ]
            refine wpAnyH_take (i := 17) (v := ?_) rfl (by kernel_rfl) (by kernel_rfl) (by kernel_rfl) (fun _ _ _ h => h) (Or.inl ⟨by kernel_rfl, ?hy17⟩) (by assumption) ?_
            case hy17 => (intro w hSw; (try dsimp only at hSw); have t1 := (Lib.cell_of_heap hSw 1).trans rfl; have t2 := (Lib.cell_of_heap hSw 2).trans rfl; go_simp; try with_reducible rfl)
            try simp only [Act.put, List.getElem_toArray, List.getElem_cons_zero, List.getElem_cons_succ, List.setIfInBounds_toArray, List.set_cons_zero, List.set_cons_succ]
            refine wpAnyH_take (i := 18) (v := ?_) rfl (by kernel_rfl) (by kernel_rfl) (by kernel_rfl) (fun _ _ _ h => h) (Or.inl ⟨by kernel_rfl, ?hy18⟩) (by assumption) ?_
            case hy18 => (intro w hSw; (try dsimp only at hSw); have t1 := (Lib.cell_of_heap hSw 1).trans rfl; have t2 := (Lib.cell_of_heap hSw 2).trans rfl; go_simp; try with_reducible rfl)
            try simp only [Act.put, List.getElem_toArray, List.getElem_cons_zero, List.getElem_cons_succ, List.setIfInBounds_toArray, List.set_cons_zero, List.set_cons_succ]
            refine wpAnyH_ready (rs := [14]) (by kernel_rfl) (by simp) ?_
            refine AllReadyH.cons rfl (fun K hK => ?_) AllReadyH.nil
            go_simp
            go_wp2_with fail
            refine (hO.closed).mono ?_
            rintro e u214 ⟨rfl, rfl⟩
            refine hK.out _ _ hHeld (fun _ => ?_)
            clear hK K
            refine wpAnyH_take (i := 19) (v := ?_) rfl (by kernel_rfl) (by kernel_rfl) (by kernel_rfl) (fun _ _ _ h => h) (Or.inl ⟨by kernel_rfl, ?hy19⟩) (by assumption) ?_
            case hy19 => (intro w hSw; (try dsimp only at hSw); have t1 := (Lib.cell_of_heap hSw 1).trans rfl; have t2 := (Lib.cell_of_heap hSw 2).trans rfl; go_simp; try with_reducible rfl)
            try simp only [Act.put, List.getElem_toArray, List.getElem_cons_zero, List.getElem_cons_succ, List.setIfInBounds_toArray, List.set_cons_zero, List.set_cons_succ]
            refine wpAnyH_take (i := 20) (v := ?_) rfl (by kernel_rfl) (by kernel_rfl) (by kernel_rfl) (fun _ _ _ h => h) (Or.inl ⟨by kernel_rfl, ?hy20⟩) (by assumption) ?_
            case hy20 => (intro w hSw; (try dsimp only at hSw); have t1 := (Lib.cell_of_heap hSw 1).trans rfl; have t2 := (Lib.cell_of_heap hSw 2).trans rfl; go_simp; try with_reducible rfl)
            try simp only [Act.put, List.getElem_toArray, List.getElem_cons_zero, List.getElem_cons_succ, List.setIfInBounds_toArray, List.set_cons_zero, List.set_cons_succ]
            refine wpAnyH_done (by kernel_rfl) ?_ _
            have H3 := hid hO
            clear hO
            go_wp2
            go_roundw
            case rel => exact ⟨j + 1, l', cl', by go_num, by omega, by omega, H3.out⟩
            case measure => simp [numOf]; omega
      · have HM := hid hQ.bel
        clear hQ
        by_cases h1 : j < n
        · have e1 : decide ((j : Int) < (n : Int)) = true := decide_eq_true (by omega)
          have e2 : decide ((j : Int) < 60) = false := decide_eq_false (by omega)
          go_wp2
          go_meet
          exact HM.out
        · have e1 : decide ((j : Int) < (n : Int)) = false := decide_eq_false (by omega)
          go_wp2
          go_meet
          exact HM.out
  case rest =>
    have HB := hid hcut
    clear HQ hcut
    go_wp2_with fail
    refine (qawake_any _ es (HE.out.below HB.out)).mono ?_
    rintro e w5 ⟨rfl, hb⟩
    have HF := hid (Below.on HB.out hb)
    clear hb HB
    go_wp2
    go_ret
    exact ⟨rfl, HF.out⟩

theorem walk (a0 : Int) (a1 : Option Addr) (n1 c1 : Nat) (w : World) (_ : (Lit.int .i64 a0).wf = true) (w1 : RdO w a1 n1 c1) (hL : laidMetH Tryd.prog Rows.queuePlaysRow.laid w) :
    Calls Tryd.prog 3 #[.int .i64 a0, .slice a1 n1 c1] w fun e w' => e = .returned (.bool true) ∧ Below w.heap.size w w' := by
  obtain ⟨es, hE⟩ := errs16 hL
  exact core a0 a1 n1 c1 w w1 es hE
end Go.Proofs.YtmcbbpcbebbjdaaDoor.queuePlays
