/- SeatPlays: for every slice of lists of surfaces and every slice of calls the call returns true; nothing that was there has turned. -/
import Derived.Test.YtegmolmjoiklpaaSeS
import Derived.LaidMore
import Derived.Deep.CutBlock
import Derived.Deep.DeepCutAuto
namespace Go.Proofs.Ytegmolmjoiklpaa.seatPlays
open Go Go.RowKit

theorem apt_of {g : Nat} {w : World} {r : Rw} (h : RdH w r.a r.n r.c r.l) (hg : w.heap.size ≤ g) : Apt [g] r.a r.n r.l := h.apt fun k hk => by
  simp only [List.mem_cons, List.not_mem_nil, or_false] at hk
  omega
theorem rcl_at {A B : List Rw} (h : rcl A = rcl B) {k : Nat} {a b : Rw} (ha : A[k]? = some a) (hb : B[k]? = some b) : a.l.map Ht.cl = b.l.map Ht.cl := by
  have h1 : (rcl A)[k]? = some (a.l.map Ht.cl) := by rw [rcl, List.getElem?_map, ha]; rfl
  have h2 : (rcl B)[k]? = some (b.l.map Ht.cl) := by rw [rcl, List.getElem?_map, hb]; rfl
  rw [h, h2] at h1
  exact (Option.some.inj h1).symm
set_option maxRecDepth 100000 in
set_option maxHeartbeats 4000000 in
theorem walk (a : Option Addr) (n c : Nat) (L : List Rw) (a1 : Option Addr) (n1 c1 : Nat) (os : List (List Int)) (w : World) (h0 : RdR w a n c L) (h1 : RdN 4 w a1 n1 c1 os) :
    Calls Try.prog 3 #[.slice a n c, .slice a1 n1 c1] w fun e w' => e = .returned (.bool true) ∧ Below w.heap.size w w' := by
  have hs0 := h0.small
  have hs1 := (rdm_of_rdn (by omega) h1).small
  have HL := hid h0.len
  have H0 := hid h0
  have H1 := hid (rdm_of_rdn (by omega) h1)
  have HW := hid h1.wf
  have CF := hid (few_any a n c L w h0)
  clear h0 h1
  go_enter Try.func3, Try.ntmps3
  go_wp2_with fail
  refine CF.out.mono ?_
  rintro e w2 ⟨hb2, rfl | ⟨a2, c2, L2, rfl, hl2, hl6, hr2, hc2⟩⟩
  · have HB2 := hid hb2
    clear hb2 CF
    go_wp2_with fail
    refine (swnew w2).mono ?_
    rintro e w3 ⟨rfl, hq⟩
    have HQ := hid (Below.on (Below.on HB2.out hq.bel) (bel_nw w3 (.cells #[.int .i64 0, .int .i64 0, .int .i64 0, .int .i64 0] 31)))
    clear hq
    go_wp2_with fail
    refine (sawake_any _).mono ?_
    rintro e w4 ⟨rfl, hb4⟩
    have HB4 := hid (Below.on HQ.out hb4)
    clear hb4
    go_wp2
    go_ret
    exact ⟨rfl, HB4.out⟩
  · have HB2 := hid hb2
    have HR2 := hid hr2
    have HLL := hid hl2
    have HCC := hid hc2
    rw [HL.out] at hl6 HR2 ⊢
    clear hb2 CF hr2 hl2 hc2
    go_wp2_with fail
    refine (swnew w2).mono ?_
    rintro e w3 ⟨rfl, hq⟩
    obtain ⟨q, hqq⟩ : ∃ q, q = w3.heap.size := ⟨_, rfl⟩
    obtain ⟨W4, hW4⟩ : ∃ W4, W4 = w3.alloc (.cells #[.int .i64 0, .int .i64 0, .int .i64 0, .int .i64 0] 31) := ⟨_, rfl⟩
    have hbs : Bs w2 W4 w2.heap.size q 0 0 0 0 0 0 0 0 := by
      rw [hW4, hqq]
      exact ⟨hq.on (bel_nw w3 _), ⟨hp_nw w3 _ rfl, by omega, by omega⟩, hq.bel.size, by have := hq.se.lt; omega⟩
    have HQ := hid hbs
    have hlt3 := hq.se.lt
    clear hq hbs
    obtain ⟨g, hg⟩ : ∃ g, g = w2.heap.size := ⟨_, rfl⟩
    rw [← hg] at HQ ⊢
    have hgle : w2.heap.size ≤ g := by omega
    clear hg
    by_cases hn0 : n = 0
    · have e1 : ((n : Int) == 0) = true := by simp [hn0]
      clear hn0
      go_wp2_with fail
      rw [← hW4]
      refine (sawake_any W4).mono ?_
      rintro e w4 ⟨rfl, hb4⟩
      have HB4 := hid (Below.on (Below.on HB2.out HQ.out.sw.bel) hb4)
      clear hb4
      go_wp2
      go_ret
      exact ⟨rfl, HB4.out⟩
    · have e1 : ((n : Int) == 0) = false := by simpa using hn0
      have CA := hid (far_any a n c L W4 (H0.out.on (Below.on HB2.out HQ.out.sw.bel)))
      go_wp2_with fail
      rw [← hW4, ← hqq]
      refine CA.out.mono ?_
      rintro e w4 ⟨hb4, qf, rfl⟩
      have HB4 := hid hb4
      clear hb4 CA hW4 hqq
      cases qf with
      | true =>
        go_wp2_with fail
        refine (sawake_any w4).mono ?_
        rintro e w5 ⟨rfl, hb5⟩
        have HB5 := hid (Below.on (Below.on (Below.on HB2.out HQ.out.sw.bel) HB4.out) hb5)
        clear hb5
        go_wp2
        go_ret
        exact ⟨rfl, HB5.out⟩
      | false =>
        have HQ4 := hid (HQ.out.on HB4.out)
        clear HQ HB4
        go_wp2
        go_loopw [9] (fun i wr => ∃ (j : Nat) (P K X Y : Int), i = .int .i64 j ∧ j ≤ n1 ∧ j ≤ 60 ∧ Bs w2 wr g q X Y P K X Y P K) (fun i _ => n1 - (numOf i).toNat)
        case atStart => exact ⟨0, 0, 0, 0, 0, rfl, by omega, by omega, HQ4.out⟩
        case round =>
          obtain ⟨j, P, K, X, Y, rfl, hj, hj60, hsw⟩ := hrel
          by_cases hgo : j < n1 ∧ j < 60
          · obtain ⟨hgo1, hgo2⟩ := hgo
            have e2 : decide ((j : Int) < (n1 : Int)) = true := decide_eq_true (by omega)
            have e3 : decide ((j : Int) < 60) = true := decide_eq_true (by omega)
            have e4 : (j : Int) < (n1 : Int) := by omega
            obtain ⟨b, off, ok, ox, oy, oa, rfl, hb, hr, c0, c1', c2', c3⟩ := (H1.out.on (Below.on HB2.out hsw.sw.bel)).el4 hgo1
            have hm := List.mem_of_getElem? hr
            have hox := wf64 (HW.out _ hm ox (by simp))
            have hoy := wf64 (HW.out _ hm oy (by simp))
            have CP := hid (place_any oa n (wf64 (HW.out _ hm oa (by simp))) (by omega) (by omega))
            have CK := hid (place_any ok 5 (wf64 (HW.out _ hm ok (by simp))) (by omega) (by omega))
            have hpl := plc_lt oa n (by omega)
            generalize plc oa n = kp at CP hpl
            generalize plc ok 5 = kk at CK
            obtain ⟨gb, hgb⟩ : ∃ gb, gb = wr.heap.size := ⟨_, rfl⟩
            obtain ⟨W1, hW1⟩ : ∃ W1, W1 = wr.alloc (.cells #[.int .i64 ok, .int .i64 ox, .int .i64 oy, .int .i64 oa] 35) := ⟨_, rfl⟩
            have hbx : W1.heap[gb]? = some (.cells #[.int .i64 ok, .int .i64 ox, .int .i64 oy, .int .i64 oa] 35 (0, 0)) := by rw [hW1, hgb]; exact hp_nw wr _ rfl
            have HS1 : Hid (Bs w2 W1 g q X Y P K X Y P K) := by rw [Hid, hW1]; exact hsw.on (bel_nw wr _)
            have hg1 : gb ≠ g := by have := hsw.sw.se.lt; omega
            have hg2 : gb ≠ q := by have := hsw.de.lt; omega
            obtain ⟨b2, off2, ⟨ra, rn, rc, rl⟩, ha2, hb2, hr2, hrd2, cr2⟩ := HR2.out.at_ hpl
            obtain ⟨b1, off1, ⟨sa, sn, sc, sl⟩, ha1, hb1, hr1, hrd1, cr1⟩ := H0.out.at_ hpl
            have hAt : ∀ x y, atL rl x y = atL sl x y := atL_cl (rcl_at HCC.out hr2 hr1)
            simp only at hrd2 cr2 hrd1 cr1
            subst ha2
            subst ha1
            have hq2 := HS1.out.nq
            have hwle := HB2.out.size
            have HA2 := hid (apt_of (r := ⟨ra, rn, rc, rl⟩) hrd2 hgle)
            have HA1 := hid (apt_of (g := q) (r := ⟨sa, sn, sc, sl⟩) (hrd1.on HB2.out) hq2)
            have HD2 := hid hrd2
            have HD1 := hid (hrd1.on HB2.out)
            have HST : Hid (StS b1 (off1 + kp) b2 (off2 + kp) gb (.slice sa sn sc) (.slice ra rn rc) (.cells #[.int .i64 ok, .int .i64 ox, .int .i64 oy, .int .i64 oa] 35 (0, 0)) W1) := ⟨by rw [(Below.on HB2.out HS1.out.sw.bel).cell hb1]; exact cr1, by rw [HS1.out.sw.bel.cell hb2]; exact cr2, hbx⟩
            have h1g : b1 ≠ g := by omega
            have h1q : b1 ≠ q := by omega
            have h2g : b2 ≠ g := by omega
            have h2q : b2 ≠ q := by omega
            have hkn : (kp : Int) < (n : Int) := by omega
            have k3 : W1.cell? ⟨gb, 3, none⟩ = some (.int .i64 oa) := (Lib.cell_of_heap hbx 3).trans rfl
            have HAT := hid hAt
            have CA2 : Hid (∀ u, RowKit.Below W1.heap.size W1 u → Calls Try.prog 12 #[.slice ra rn rc, .int .i64 ox, .int .i64 oy] u fun e w' => e = .returned (.tuple #[.int .i64 (atL sl ox oy).1, .int .i64 (atL sl ox oy).2.1, .int .i64 (atL sl ox oy).2.2]) ∧ RowKit.Below u.heap.size u w') := fun u hu => by
              have := sat_any ra rn rc rl ox oy hox hoy u (HD2.out.on (Below.on HS1.out.sw.bel hu))
              rwa [HAT.out] at this
            have CA1 := hid (fun u hu => rsat_any sa sn sc sl ox oy hox hoy u (HD1.out.on (Below.on HS1.out.sw.bel hu)))
            generalize atL sl ox oy = A at CA1 CA2
            obtain ⟨s, ix, iy⟩ := A
            clear hsw hr hm HQ4 hbx hr2 hr1 hrd2 hrd1 cr1 cr2 hAt
            go_upto_region 10 with fail
            rw [← hW1, ← hgb]
            clear hW1 hgb c0 c1' c2' c3
            go_wp2_with fail
            refine (CP.out _).mono ?_
            rintro e u ⟨rfl, rfl⟩
            clear CP k3
            go_wp2
            refine wp_region_held_drew (S := fun v => RowKit.Below u.heap.size u v) (by kernel_rfl) ?hh (fun hHeld => ?_)
            case hh => exact ((Below.refl _ _).drew)
            refine wpAnyH_take (i := 0) (v := ?_) rfl (by kernel_rfl) (by kernel_rfl) (by kernel_rfl) (fun _ _ _ h => h) (Or.inl ⟨by kernel_rfl, ?hy0⟩) (by assumption) ?_
            case hy0 => (intro w hSw; (try dsimp only at hSw); have t := HST.out.on hSw; have t1 := t.c2; have t2 := (Lib.cell_of_heap t.bx 1).trans rfl; have t3 := (Lib.cell_of_heap t.bx 2).trans rfl; go_simp; try with_reducible rfl)
            try simp only [Act.put, List.getElem_toArray, List.getElem_cons_zero, List.setIfInBounds_toArray, List.set_cons_zero, List.set_cons_succ]
            refine wpAnyH_take (i := 1) (v := ?_) rfl (by kernel_rfl) (by kernel_rfl) (by kernel_rfl) (fun _ _ _ h => h) (Or.inl ⟨by kernel_rfl, ?hy1⟩) (by assumption) ?_
            case hy1 => (intro w hSw; (try dsimp only at hSw); have t := HST.out.on hSw; have t1 := t.c2; have t2 := (Lib.cell_of_heap t.bx 1).trans rfl; have t3 := (Lib.cell_of_heap t.bx 2).trans rfl; go_simp; try with_reducible rfl)
            try simp only [Act.put, List.getElem_toArray, List.getElem_cons_zero, List.getElem_cons_succ, List.setIfInBounds_toArray, List.set_cons_zero, List.set_cons_succ]
            refine wpAnyH_take (i := 2) (v := ?_) rfl (by kernel_rfl) (by kernel_rfl) (by kernel_rfl) (fun _ _ _ h => h) (Or.inl ⟨by kernel_rfl, ?hy2⟩) (by assumption) ?_
            case hy2 => (intro w hSw; (try dsimp only at hSw); have t := HST.out.on hSw; have t1 := t.c2; have t2 := (Lib.cell_of_heap t.bx 1).trans rfl; have t3 := (Lib.cell_of_heap t.bx 2).trans rfl; go_simp; try with_reducible rfl)
            try simp only [Act.put, List.getElem_toArray, List.getElem_cons_zero, List.getElem_cons_succ, List.setIfInBounds_toArray, List.set_cons_zero, List.set_cons_succ]
            refine wpAnyH_take (i := 3) (v := ?_) rfl (by kernel_rfl) (by kernel_rfl) (by kernel_rfl) (fun _ _ _ h => h) (Or.inl ⟨by kernel_rfl, ?hy3⟩) (by assumption) ?_
            case hy3 => (intro w hSw; (try dsimp only at hSw); have t := HST.out.on hSw; have t1 := t.c2; have t2 := (Lib.cell_of_heap t.bx 1).trans rfl; have t3 := (Lib.cell_of_heap t.bx 2).trans rfl; go_simp; try with_reducible rfl)
            try simp only [Act.put, List.getElem_toArray, List.getElem_cons_zero, List.getElem_cons_succ, List.setIfInBounds_toArray, List.set_cons_zero, List.set_cons_succ]
            refine wpAnyH_take (i := 4) (v := ?_) rfl (by kernel_rfl) (by kernel_rfl) (by kernel_rfl) (fun _ _ _ h => h) (Or.inl ⟨by kernel_rfl, ?hy4⟩) (by assumption) ?_
            case hy4 => (intro w hSw; (try dsimp only at hSw); have t := HST.out.on hSw; have t1 := t.c2; have t2 := (Lib.cell_of_heap t.bx 1).trans rfl; have t3 := (Lib.cell_of_heap t.bx 2).trans rfl; go_simp; try with_reducible rfl)
            try simp only [Act.put, List.getElem_toArray, List.getElem_cons_zero, List.getElem_cons_succ, List.setIfInBounds_toArray, List.set_cons_zero, List.set_cons_succ]
            refine wpAnyH_take (i := 5) (v := ?_) rfl (by kernel_rfl) (by kernel_rfl) (by kernel_rfl) (fun _ _ _ h => h) (Or.inl ⟨by kernel_rfl, ?hy5⟩) (by assumption) ?_
            case hy5 => (intro w hSw; (try dsimp only at hSw); have t := HST.out.on hSw; have t1 := t.c2; have t2 := (Lib.cell_of_heap t.bx 1).trans rfl; have t3 := (Lib.cell_of_heap t.bx 2).trans rfl; go_simp; try with_reducible rfl)
            try simp only [Act.put, List.getElem_toArray, List.getElem_cons_zero, List.getElem_cons_succ, List.setIfInBounds_toArray, List.set_cons_zero, List.set_cons_succ]
            refine wpAnyH_take (i := 6) (v := ?_) rfl (by kernel_rfl) (by kernel_rfl) (by kernel_rfl) (fun _ _ _ h => h) (Or.inl ⟨by kernel_rfl, ?hy6⟩) (by assumption) ?_
            case hy6 => (intro w hSw; (try dsimp only at hSw); have t := HST.out.on hSw; have t1 := t.c2; have t2 := (Lib.cell_of_heap t.bx 1).trans rfl; have t3 := (Lib.cell_of_heap t.bx 2).trans rfl; go_simp; try with_reducible rfl)
            try simp only [Act.put, List.getElem_toArray, List.getElem_cons_zero, List.getElem_cons_succ, List.setIfInBounds_toArray, List.set_cons_zero, List.set_cons_succ]
            refine wpAnyH_take (i := 7) (v := ?_) rfl (by kernel_rfl) (by kernel_rfl) (by kernel_rfl) (fun _ _ _ h => h) (Or.inl ⟨by kernel_rfl, ?hy7⟩) (by assumption) ?_
            case hy7 => (intro w hSw; (try dsimp only at hSw); have t := HST.out.on hSw; have t1 := t.c2; have t2 := (Lib.cell_of_heap t.bx 1).trans rfl; have t3 := (Lib.cell_of_heap t.bx 2).trans rfl; go_simp; try with_reducible rfl)
            try simp only [Act.put, List.getElem_toArray, List.getElem_cons_zero, List.getElem_cons_succ, List.setIfInBounds_toArray, List.set_cons_zero, List.set_cons_succ]
            refine wpAnyH_ready (rs := [8]) (by kernel_rfl) (by simp) ?_
            refine AllReadyH.cons rfl (fun K hK => ?_) AllReadyH.nil
            go_simp
            go_wp2_with fail
            refine (CA2.out _ hHeld).mono ?_
            rintro e u8 ⟨rfl, hb8⟩
            have hS8 := Below.on hHeld hb8
            refine hK.out _ _ hS8 (fun _ => ?_)
            clear hK K hHeld hb8
            refine wpAnyH_take (i := 9) (v := ?_) rfl (by kernel_rfl) (by kernel_rfl) (by kernel_rfl) (fun _ _ _ h => h) (Or.inl ⟨by kernel_rfl, ?hy9⟩) (by assumption) ?_
            case hy9 => (intro w hSw; (try dsimp only at hSw); have t := HST.out.on hSw; have t1 := t.c2; have t2 := (Lib.cell_of_heap t.bx 1).trans rfl; have t3 := (Lib.cell_of_heap t.bx 2).trans rfl; go_simp; try with_reducible rfl)
            try simp only [Act.put, List.getElem_toArray, List.getElem_cons_zero, List.getElem_cons_succ, List.setIfInBounds_toArray, List.set_cons_zero, List.set_cons_succ]
            refine wpAnyH_take (i := 10) (v := ?_) rfl (by kernel_rfl) (by kernel_rfl) (by kernel_rfl) (fun _ _ _ h => h) (Or.inl ⟨by kernel_rfl, ?hy10⟩) (by assumption) ?_
            case hy10 => (intro w hSw; (try dsimp only at hSw); have t := HST.out.on hSw; have t1 := t.c2; have t2 := (Lib.cell_of_heap t.bx 1).trans rfl; have t3 := (Lib.cell_of_heap t.bx 2).trans rfl; go_simp; try with_reducible rfl)
            try simp only [Act.put, List.getElem_toArray, List.getElem_cons_zero, List.getElem_cons_succ, List.setIfInBounds_toArray, List.set_cons_zero, List.set_cons_succ]
            refine wpAnyH_take (i := 11) (v := ?_) rfl (by kernel_rfl) (by kernel_rfl) (by kernel_rfl) (fun _ _ _ h => h) (Or.inl ⟨by kernel_rfl, ?hy11⟩) (by assumption) ?_
            case hy11 => (intro w hSw; (try dsimp only at hSw); have t := HST.out.on hSw; have t1 := t.c2; have t2 := (Lib.cell_of_heap t.bx 1).trans rfl; have t3 := (Lib.cell_of_heap t.bx 2).trans rfl; go_simp; try with_reducible rfl)
            try simp only [Act.put, List.getElem_toArray, List.getElem_cons_zero, List.getElem_cons_succ, List.setIfInBounds_toArray, List.set_cons_zero, List.set_cons_succ]
            refine wpAnyH_take (i := 12) (v := ?_) rfl (by kernel_rfl) (by kernel_rfl) (by kernel_rfl) (fun _ _ _ h => h) (Or.inl ⟨by kernel_rfl, ?hy12⟩) (by assumption) ?_
            case hy12 => (intro w hSw; (try dsimp only at hSw); have t := HST.out.on hSw; have t1 := t.c2; have t2 := (Lib.cell_of_heap t.bx 1).trans rfl; have t3 := (Lib.cell_of_heap t.bx 2).trans rfl; go_simp; try with_reducible rfl)
            try simp only [Act.put, List.getElem_toArray, List.getElem_cons_zero, List.getElem_cons_succ, List.setIfInBounds_toArray, List.set_cons_zero, List.set_cons_succ]
            refine wpAnyH_take (i := 13) (v := ?_) rfl (by kernel_rfl) (by kernel_rfl) (by kernel_rfl) (fun _ _ _ h => h) (Or.inl ⟨by kernel_rfl, ?hy13⟩) (by assumption) ?_
            case hy13 => (intro w hSw; (try dsimp only at hSw); have t := HST.out.on hSw; have t1 := t.c2; have t2 := (Lib.cell_of_heap t.bx 1).trans rfl; have t3 := (Lib.cell_of_heap t.bx 2).trans rfl; go_simp; try with_reducible rfl)
            try simp only [Act.put, List.getElem_toArray, List.getElem_cons_zero, List.getElem_cons_succ, List.setIfInBounds_toArray, List.set_cons_zero, List.set_cons_succ]
            refine wpAnyH_take (i := 14) (v := ?_) rfl (by kernel_rfl) (by kernel_rfl) (by kernel_rfl) (fun _ _ _ h => h) (Or.inl ⟨by kernel_rfl, ?hy14⟩) (by assumption) ?_
            case hy14 => (intro w hSw; (try dsimp only at hSw); have t := HST.out.on hSw; have t1 := t.c2; have t2 := (Lib.cell_of_heap t.bx 1).trans rfl; have t3 := (Lib.cell_of_heap t.bx 2).trans rfl; go_simp; try with_reducible rfl)
            try simp only [Act.put, List.getElem_toArray, List.getElem_cons_zero, List.getElem_cons_succ, List.setIfInBounds_toArray, List.set_cons_zero, List.set_cons_succ]
            refine wpAnyH_take (i := 15) (v := ?_) rfl (by kernel_rfl) (by kernel_rfl) (by kernel_rfl) (fun _ _ _ h => h) (Or.inl ⟨by kernel_rfl, ?hy15⟩) (by assumption) ?_
            case hy15 => (intro w hSw; (try dsimp only at hSw); have t := HST.out.on hSw; have t1 := t.c2; have t2 := (Lib.cell_of_heap t.bx 1).trans rfl; have t3 := (Lib.cell_of_heap t.bx 2).trans rfl; go_simp; try with_reducible rfl)
            try simp only [Act.put, List.getElem_toArray, List.getElem_cons_zero, List.getElem_cons_succ, List.setIfInBounds_toArray, List.set_cons_zero, List.set_cons_succ]
            refine wpAnyH_done (by kernel_rfl) ?_ _
            have HB8 := hid hS8
            clear hS8
            go_wp2
            refine wp_region_held_drew (S := fun v => RowKit.Below u.heap.size u v) (by kernel_rfl) ?hh (fun hHeld => ?_)
            case hh => exact (Below.on HB8.out (Below.refl _ _).drew)
            refine wpAnyH_take (i := 0) (v := ?_) rfl (by kernel_rfl) (by kernel_rfl) (by kernel_rfl) (fun _ _ _ h => h) (Or.inl ⟨by kernel_rfl, ?hy0⟩) (by assumption) ?_
            case hy0 => (intro w hSw; (try dsimp only at hSw); have t := HST.out.on hSw; have t1 := t.c1; have t2 := (Lib.cell_of_heap t.bx 1).trans rfl; have t3 := (Lib.cell_of_heap t.bx 2).trans rfl; go_simp; try with_reducible rfl)
            try simp only [Act.put, List.getElem_toArray, List.getElem_cons_zero, List.setIfInBounds_toArray, List.set_cons_zero, List.set_cons_succ]
            refine wpAnyH_take (i := 1) (v := ?_) rfl (by kernel_rfl) (by kernel_rfl) (by kernel_rfl) (fun _ _ _ h => h) (Or.inl ⟨by kernel_rfl, ?hy1⟩) (by assumption) ?_
            case hy1 => (intro w hSw; (try dsimp only at hSw); have t := HST.out.on hSw; have t1 := t.c1; have t2 := (Lib.cell_of_heap t.bx 1).trans rfl; have t3 := (Lib.cell_of_heap t.bx 2).trans rfl; go_simp; try with_reducible rfl)
            try simp only [Act.put, List.getElem_toArray, List.getElem_cons_zero, List.getElem_cons_succ, List.setIfInBounds_toArray, List.set_cons_zero, List.set_cons_succ]
            refine wpAnyH_take (i := 2) (v := ?_) rfl (by kernel_rfl) (by kernel_rfl) (by kernel_rfl) (fun _ _ _ h => h) (Or.inl ⟨by kernel_rfl, ?hy2⟩) (by assumption) ?_
            case hy2 => (intro w hSw; (try dsimp only at hSw); have t := HST.out.on hSw; have t1 := t.c1; have t2 := (Lib.cell_of_heap t.bx 1).trans rfl; have t3 := (Lib.cell_of_heap t.bx 2).trans rfl; go_simp; try with_reducible rfl)
            try simp only [Act.put, List.getElem_toArray, List.getElem_cons_zero, List.getElem_cons_succ, List.setIfInBounds_toArray, List.set_cons_zero, List.set_cons_succ]
            refine wpAnyH_take (i := 3) (v := ?_) rfl (by kernel_rfl) (by kernel_rfl) (by kernel_rfl) (fun _ _ _ h => h) (Or.inl ⟨by kernel_rfl, ?hy3⟩) (by assumption) ?_
            case hy3 => (intro w hSw; (try dsimp only at hSw); have t := HST.out.on hSw; have t1 := t.c1; have t2 := (Lib.cell_of_heap t.bx 1).trans rfl; have t3 := (Lib.cell_of_heap t.bx 2).trans rfl; go_simp; try with_reducible rfl)
            try simp only [Act.put, List.getElem_toArray, List.getElem_cons_zero, List.getElem_cons_succ, List.setIfInBounds_toArray, List.set_cons_zero, List.set_cons_succ]
            refine wpAnyH_take (i := 4) (v := ?_) rfl (by kernel_rfl) (by kernel_rfl) (by kernel_rfl) (fun _ _ _ h => h) (Or.inl ⟨by kernel_rfl, ?hy4⟩) (by assumption) ?_
            case hy4 => (intro w hSw; (try dsimp only at hSw); have t := HST.out.on hSw; have t1 := t.c1; have t2 := (Lib.cell_of_heap t.bx 1).trans rfl; have t3 := (Lib.cell_of_heap t.bx 2).trans rfl; go_simp; try with_reducible rfl)
            try simp only [Act.put, List.getElem_toArray, List.getElem_cons_zero, List.getElem_cons_succ, List.setIfInBounds_toArray, List.set_cons_zero, List.set_cons_succ]
            refine wpAnyH_take (i := 5) (v := ?_) rfl (by kernel_rfl) (by kernel_rfl) (by kernel_rfl) (fun _ _ _ h => h) (Or.inl ⟨by kernel_rfl, ?hy5⟩) (by assumption) ?_
            case hy5 => (intro w hSw; (try dsimp only at hSw); have t := HST.out.on hSw; have t1 := t.c1; have t2 := (Lib.cell_of_heap t.bx 1).trans rfl; have t3 := (Lib.cell_of_heap t.bx 2).trans rfl; go_simp; try with_reducible rfl)
            try simp only [Act.put, List.getElem_toArray, List.getElem_cons_zero, List.getElem_cons_succ, List.setIfInBounds_toArray, List.set_cons_zero, List.set_cons_succ]
            refine wpAnyH_take (i := 6) (v := ?_) rfl (by kernel_rfl) (by kernel_rfl) (by kernel_rfl) (fun _ _ _ h => h) (Or.inl ⟨by kernel_rfl, ?hy6⟩) (by assumption) ?_
            case hy6 => (intro w hSw; (try dsimp only at hSw); have t := HST.out.on hSw; have t1 := t.c1; have t2 := (Lib.cell_of_heap t.bx 1).trans rfl; have t3 := (Lib.cell_of_heap t.bx 2).trans rfl; go_simp; try with_reducible rfl)
            try simp only [Act.put, List.getElem_toArray, List.getElem_cons_zero, List.getElem_cons_succ, List.setIfInBounds_toArray, List.set_cons_zero, List.set_cons_succ]
            refine wpAnyH_take (i := 7) (v := ?_) rfl (by kernel_rfl) (by kernel_rfl) (by kernel_rfl) (fun _ _ _ h => h) (Or.inl ⟨by kernel_rfl, ?hy7⟩) (by assumption) ?_
            case hy7 => (intro w hSw; (try dsimp only at hSw); have t := HST.out.on hSw; have t1 := t.c1; have t2 := (Lib.cell_of_heap t.bx 1).trans rfl; have t3 := (Lib.cell_of_heap t.bx 2).trans rfl; go_simp; try with_reducible rfl)
            try simp only [Act.put, List.getElem_toArray, List.getElem_cons_zero, List.getElem_cons_succ, List.setIfInBounds_toArray, List.set_cons_zero, List.set_cons_succ]
            refine wpAnyH_ready (rs := [8]) (by kernel_rfl) (by simp) ?_
            refine AllReadyH.cons rfl (fun K hK => ?_) AllReadyH.nil
            go_simp
            go_wp2_with fail
            refine (CA1.out _ hHeld).mono ?_
            rintro e u9 ⟨rfl, hb9⟩
            have hS9 := Below.on hHeld hb9
            refine hK.out _ _ hS9 (fun _ => ?_)
            clear hK K hHeld hb9
            refine wpAnyH_take (i := 9) (v := ?_) rfl (by kernel_rfl) (by kernel_rfl) (by kernel_rfl) (fun _ _ _ h => h) (Or.inl ⟨by kernel_rfl, ?hy9⟩) (by assumption) ?_
            case hy9 => (intro w hSw; (try dsimp only at hSw); have t := HST.out.on hSw; have t1 := t.c1; have t2 := (Lib.cell_of_heap t.bx 1).trans rfl; have t3 := (Lib.cell_of_heap t.bx 2).trans rfl; go_simp; try with_reducible rfl)
            try simp only [Act.put, List.getElem_toArray, List.getElem_cons_zero, List.getElem_cons_succ, List.setIfInBounds_toArray, List.set_cons_zero, List.set_cons_succ]
            refine wpAnyH_take (i := 10) (v := ?_) rfl (by kernel_rfl) (by kernel_rfl) (by kernel_rfl) (fun _ _ _ h => h) (Or.inl ⟨by kernel_rfl, ?hy10⟩) (by assumption) ?_
            case hy10 => (intro w hSw; (try dsimp only at hSw); have t := HST.out.on hSw; have t1 := t.c1; have t2 := (Lib.cell_of_heap t.bx 1).trans rfl; have t3 := (Lib.cell_of_heap t.bx 2).trans rfl; go_simp; try with_reducible rfl)
            try simp only [Act.put, List.getElem_toArray, List.getElem_cons_zero, List.getElem_cons_succ, List.setIfInBounds_toArray, List.set_cons_zero, List.set_cons_succ]
            refine wpAnyH_take (i := 11) (v := ?_) rfl (by kernel_rfl) (by kernel_rfl) (by kernel_rfl) (fun _ _ _ h => h) (Or.inl ⟨by kernel_rfl, ?hy11⟩) (by assumption) ?_
            case hy11 => (intro w hSw; (try dsimp only at hSw); have t := HST.out.on hSw; have t1 := t.c1; have t2 := (Lib.cell_of_heap t.bx 1).trans rfl; have t3 := (Lib.cell_of_heap t.bx 2).trans rfl; go_simp; try with_reducible rfl)
            try simp only [Act.put, List.getElem_toArray, List.getElem_cons_zero, List.getElem_cons_succ, List.setIfInBounds_toArray, List.set_cons_zero, List.set_cons_succ]
            refine wpAnyH_take (i := 12) (v := ?_) rfl (by kernel_rfl) (by kernel_rfl) (by kernel_rfl) (fun _ _ _ h => h) (Or.inl ⟨by kernel_rfl, ?hy12⟩) (by assumption) ?_
            case hy12 => (intro w hSw; (try dsimp only at hSw); have t := HST.out.on hSw; have t1 := t.c1; have t2 := (Lib.cell_of_heap t.bx 1).trans rfl; have t3 := (Lib.cell_of_heap t.bx 2).trans rfl; go_simp; try with_reducible rfl)
            try simp only [Act.put, List.getElem_toArray, List.getElem_cons_zero, List.getElem_cons_succ, List.setIfInBounds_toArray, List.set_cons_zero, List.set_cons_succ]
            refine wpAnyH_take (i := 13) (v := ?_) rfl (by kernel_rfl) (by kernel_rfl) (by kernel_rfl) (fun _ _ _ h => h) (Or.inl ⟨by kernel_rfl, ?hy13⟩) (by assumption) ?_
            case hy13 => (intro w hSw; (try dsimp only at hSw); have t := HST.out.on hSw; have t1 := t.c1; have t2 := (Lib.cell_of_heap t.bx 1).trans rfl; have t3 := (Lib.cell_of_heap t.bx 2).trans rfl; go_simp; try with_reducible rfl)
            try simp only [Act.put, List.getElem_toArray, List.getElem_cons_zero, List.getElem_cons_succ, List.setIfInBounds_toArray, List.set_cons_zero, List.set_cons_succ]
            refine wpAnyH_take (i := 14) (v := ?_) rfl (by kernel_rfl) (by kernel_rfl) (by kernel_rfl) (fun _ _ _ h => h) (Or.inl ⟨by kernel_rfl, ?hy14⟩) (by assumption) ?_
            case hy14 => (intro w hSw; (try dsimp only at hSw); have t := HST.out.on hSw; have t1 := t.c1; have t2 := (Lib.cell_of_heap t.bx 1).trans rfl; have t3 := (Lib.cell_of_heap t.bx 2).trans rfl; go_simp; try with_reducible rfl)
            try simp only [Act.put, List.getElem_toArray, List.getElem_cons_zero, List.getElem_cons_succ, List.setIfInBounds_toArray, List.set_cons_zero, List.set_cons_succ]
            refine wpAnyH_take (i := 15) (v := ?_) rfl (by kernel_rfl) (by kernel_rfl) (by kernel_rfl) (fun _ _ _ h => h) (Or.inl ⟨by kernel_rfl, ?hy15⟩) (by assumption) ?_
            case hy15 => (intro w hSw; (try dsimp only at hSw); have t := HST.out.on hSw; have t1 := t.c1; have t2 := (Lib.cell_of_heap t.bx 1).trans rfl; have t3 := (Lib.cell_of_heap t.bx 2).trans rfl; go_simp; try with_reducible rfl)
            try simp only [Act.put, List.getElem_toArray, List.getElem_cons_zero, List.getElem_cons_succ, List.setIfInBounds_toArray, List.set_cons_zero, List.set_cons_succ]
            refine wpAnyH_done (by kernel_rfl) ?_ _
            have HB9 := hid hS9
            have HS9 := hid (HS1.out.on hS9)
            have HT9 := hid (HST.out.on hS9)
            clear hS9 CA1 CA2
            go_upto_region 13 with fail
            go_cut [18] from 96 to 112 (fun v wx => v = .bool true ∧ wx = u9)
            case first =>
              have e5 : (s == s) = true := by simp
              have e6 : (ix == ix) = true := by simp
              have e7 : (iy == iy) = true := by simp
              cases e8 : (s == 0)
              · go_wp2_with fail
                go_meet
                exact ⟨rfl, rfl⟩
              · go_wp2_with fail
                go_meet
                exact ⟨rfl, rfl⟩
            case rest =>
              obtain ⟨rfl, rfl⟩ := hcut
              have k0 : wc.cell? ⟨gb, 0, none⟩ = some (.int .i64 ok) := (Lib.cell_of_heap HT9.out.bx 0).trans rfl
              go_wp2_with fail
              refine (CK.out _).mono ?_
              rintro e W9 ⟨rfl, rfl⟩
              clear CK k0 HST HB8 HB9
              go_upto_block 2 with fail
              go_cut [18] from 116 to 181 (fun v wx => v = .bool true ∧ ∃ P K X Y : Int, Bs w2 wx g q X Y P K X Y P K)
              case first =>
                by_cases hk2 : kk = 2
                · subst hk2
                  have hB0 : Bs w2 W9.drew g q X Y P K X Y P K := HS9.out.on (Below.refl _ _).drew
                  have hT0 : StS b1 (off1 + kp) b2 (off2 + kp) gb (.slice sa sn sc) (.slice ra rn rc) (.cells #[.int .i64 ok, .int .i64 ox, .int .i64 oy, .int .i64 oa] 35 (0, 0)) W9.drew := HT9.out.on (Below.refl _ _).drew
                  have CB2 : Hid (∀ u, Bs w2 u g q X Y P K X Y P K → Calls Try.prog 15 #[.pointer (some ⟨g, 0, none⟩), .slice ra rn rc] u fun e w' => ∃ v, e = .returned v ∧ SeR u w' g v (lokN P (atL sl X Y).1 (atL sl X Y).2.1 (atL sl X Y).2.2) X Y (atL sl X Y).1 K) := fun u hu => by
                    have := slook_any hu.sw.se ra rn rc rl (HD2.out.on hu.sw.bel)
                    rwa [HAT.out] at this
                  have CB1 : Hid (∀ (u : World) (x' y' P' K' : Int), Bs w2 u g q x' y' P' K' X Y P K → Calls Try.prog 16 #[.pointer (some ⟨q, 0, none⟩), .slice sa sn sc, .bool false] u fun e w' => ∃ v, e = .returned v ∧ DeR u w' q v (lokN P (atL sl X Y).1 (atL sl X Y).2.1 (atL sl X Y).2.2) X Y (atL sl X Y).1 K) := fun u _ _ _ _ hu => by
                    have := rslook_any hu.de false sa sn sc sl (HD1.out.on hu.sw.bel)
                    rwa [show ∀ P s x y, lkN false P s x y = lokN P s x y from fun _ _ _ _ => rfl] at this
                  generalize lokN P (atL sl X Y).1 (atL sl X Y).2.1 (atL sl X Y).2.2 = l7 at CB1 CB2
                  generalize (atL sl X Y).1 = s7 at CB1 CB2
                  go_wp2
                  refine wp_region_held_drew (S := StS b1 (off1 + kp) b2 (off2 + kp) gb (.slice sa sn sc) (.slice ra rn rc) (.cells #[.int .i64 ok, .int .i64 ox, .int .i64 oy, .int .i64 oa] 35 (0, 0))) (by kernel_rfl) ?hh (fun hHeld => ?_)
                  case hh => exact (hT0)
                  refine wpAnyH_take (i := 0) (v := ?_) rfl (by kernel_rfl) (by kernel_rfl) (by kernel_rfl) (fun _ _ _ h => h) (Or.inl ⟨by kernel_rfl, ?hy0⟩) (by assumption) ?_
                  case hy0 => (intro w hSw; (try dsimp only at hSw); have t1 := hSw.c1; have t2 := hSw.c2; go_simp; try with_reducible rfl)
                  try simp only [Act.put, List.getElem_toArray, List.getElem_cons_zero, List.setIfInBounds_toArray, List.set_cons_zero, List.set_cons_succ]
                  refine wpAnyH_take (i := 1) (v := ?_) rfl (by kernel_rfl) (by kernel_rfl) (by kernel_rfl) (fun _ _ _ h => h) (Or.inl ⟨by kernel_rfl, ?hy1⟩) (by assumption) ?_
                  case hy1 => (intro w hSw; (try dsimp only at hSw); have t1 := hSw.c1; have t2 := hSw.c2; go_simp; try with_reducible rfl)
                  try simp only [Act.put, List.getElem_toArray, List.getElem_cons_zero, List.getElem_cons_succ, List.setIfInBounds_toArray, List.set_cons_zero, List.set_cons_succ]
                  refine wpAnyH_take (i := 2) (v := ?_) rfl (by kernel_rfl) (by kernel_rfl) (by kernel_rfl) (fun _ _ _ h => h) (Or.inl ⟨by kernel_rfl, ?hy2⟩) (by assumption) ?_
                  case hy2 => (intro w hSw; (try dsimp only at hSw); have t1 := hSw.c1; have t2 := hSw.c2; go_simp; try with_reducible rfl)
                  try simp only [Act.put, List.getElem_toArray, List.getElem_cons_zero, List.getElem_cons_succ, List.setIfInBounds_toArray, List.set_cons_zero, List.set_cons_succ]
                  refine wpAnyH_take (i := 3) (v := ?_) rfl (by kernel_rfl) (by kernel_rfl) (by kernel_rfl) (fun _ _ _ h => h) (Or.inl ⟨by kernel_rfl, ?hy3⟩) (by assumption) ?_
                  case hy3 => (intro w hSw; (try dsimp only at hSw); have t1 := hSw.c1; have t2 := hSw.c2; go_simp; try with_reducible rfl)
                  try simp only [Act.put, List.getElem_toArray, List.getElem_cons_zero, List.getElem_cons_succ, List.setIfInBounds_toArray, List.set_cons_zero, List.set_cons_succ]
                  refine wpAnyH_take (i := 4) (v := ?_) rfl (by kernel_rfl) (by kernel_rfl) (by kernel_rfl) (fun _ _ _ h => h) (Or.inl ⟨by kernel_rfl, ?hy4⟩) (by assumption) ?_
                  case hy4 => (intro w hSw; (try dsimp only at hSw); have t1 := hSw.c1; have t2 := hSw.c2; go_simp; try with_reducible rfl)
                  try simp only [Act.put, List.getElem_toArray, List.getElem_cons_zero, List.getElem_cons_succ, List.setIfInBounds_toArray, List.set_cons_zero, List.set_cons_succ]
                  refine wpAnyH_take (i := 5) (v := ?_) rfl (by kernel_rfl) (by kernel_rfl) (by kernel_rfl) (fun _ _ _ h => h) (Or.inl ⟨by kernel_rfl, ?hy5⟩) (by assumption) ?_
                  case hy5 => (intro w hSw; (try dsimp only at hSw); have t1 := hSw.c1; have t2 := hSw.c2; go_simp; try with_reducible rfl)
                  try simp only [Act.put, List.getElem_toArray, List.getElem_cons_zero, List.getElem_cons_succ, List.setIfInBounds_toArray, List.set_cons_zero, List.set_cons_succ]
                  refine wpAnyH_take (i := 6) (v := ?_) rfl (by kernel_rfl) (by kernel_rfl) (by kernel_rfl) (fun _ _ _ h => h) (Or.inl ⟨by kernel_rfl, ?hy6⟩) (by assumption) ?_
                  case hy6 => (intro w hSw; (try dsimp only at hSw); have t1 := hSw.c1; have t2 := hSw.c2; go_simp; try with_reducible rfl)
                  try simp only [Act.put, List.getElem_toArray, List.getElem_cons_zero, List.getElem_cons_succ, List.setIfInBounds_toArray, List.set_cons_zero, List.set_cons_succ]
                  refine wpAnyH_take (i := 8) (v := ?_) rfl (by kernel_rfl) (by kernel_rfl) (by kernel_rfl) (fun _ _ _ h => h) (Or.inl ⟨by kernel_rfl, ?hy8⟩) (by assumption) ?_
                  case hy8 => (intro w hSw; (try dsimp only at hSw); have t1 := hSw.c1; have t2 := hSw.c2; go_simp; try with_reducible rfl)
                  try simp only [Act.put, List.getElem_toArray, List.getElem_cons_zero, List.getElem_cons_succ, List.setIfInBounds_toArray, List.set_cons_zero, List.set_cons_succ]
                  refine wpAnyH_take (i := 9) (v := ?_) rfl (by kernel_rfl) (by kernel_rfl) (by kernel_rfl) (fun _ _ _ h => h) (Or.inl ⟨by kernel_rfl, ?hy9⟩) (by assumption) ?_
                  case hy9 => (intro w hSw; (try dsimp only at hSw); have t1 := hSw.c1; have t2 := hSw.c2; go_simp; try with_reducible rfl)
                  try simp only [Act.put, List.getElem_toArray, List.getElem_cons_zero, List.getElem_cons_succ, List.setIfInBounds_toArray, List.set_cons_zero, List.set_cons_succ]
                  refine wpAnyH_take (i := 10) (v := ?_) rfl (by kernel_rfl) (by kernel_rfl) (by kernel_rfl) (fun _ _ _ h => h) (Or.inl ⟨by kernel_rfl, ?hy10⟩) (by assumption) ?_
                  case hy10 => (intro w hSw; (try dsimp only at hSw); have t1 := hSw.c1; have t2 := hSw.c2; go_simp; try with_reducible rfl)
                  try simp only [Act.put, List.getElem_toArray, List.getElem_cons_zero, List.getElem_cons_succ, List.setIfInBounds_toArray, List.set_cons_zero, List.set_cons_succ]
                  refine wpAnyH_take (i := 11) (v := ?_) rfl (by kernel_rfl) (by kernel_rfl) (by kernel_rfl) (fun _ _ _ h => h) (Or.inl ⟨by kernel_rfl, ?hy11⟩) (by assumption) ?_
                  case hy11 => (intro w hSw; (try dsimp only at hSw); have t1 := hSw.c1; have t2 := hSw.c2; go_simp; try with_reducible rfl)
                  try simp only [Act.put, List.getElem_toArray, List.getElem_cons_zero, List.getElem_cons_succ, List.setIfInBounds_toArray, List.set_cons_zero, List.set_cons_succ]
                  refine wpAnyH_take (i := 12) (v := ?_) rfl (by kernel_rfl) (by kernel_rfl) (by kernel_rfl) (fun _ _ _ h => h) (Or.inl ⟨by kernel_rfl, ?hy12⟩) (by assumption) ?_
                  case hy12 => (intro w hSw; (try dsimp only at hSw); have t1 := hSw.c1; have t2 := hSw.c2; go_simp; try with_reducible rfl)
                  try simp only [Act.put, List.getElem_toArray, List.getElem_cons_zero, List.getElem_cons_succ, List.setIfInBounds_toArray, List.set_cons_zero, List.set_cons_succ]
                  refine wpAnyH_ready (rs := [7]) (by kernel_rfl) (by simp) ?_
                  refine AllReadyH.cons rfl (fun K hK => ?_) AllReadyH.nil
                  generalize W9.drew = V0 at hB0 hT0 hHeld hK ⊢
                  have hlq := hB0.de.lt
                  go_simp
                  go_wp2_with fail
                  refine (CB2.out _ hB0).mono ?_
                  rintro e u7 ⟨v7, rfl, hN7⟩
                  have hB7 := hB0.prog hN7.kp hN7.se
                  obtain ⟨a7, c7, rfl, hd7, hq7⟩ := hN7.rd
                  have hT7 := hHeld.kp hN7.kp (by simpa using h1g) (by simpa using h2g) (by simpa using hg1)
                  refine hK.out _ _ hT7 (fun _ => ?_)
                  clear hK K hHeld hN7 hT0 hB0
                  have hHeld := hT7
                  clear hT7
                  refine wpAnyH_ready (rs := [13]) (by kernel_rfl) (by simp) ?_
                  refine AllReadyH.cons rfl (fun K hK => ?_) AllReadyH.nil
                  go_simp
                  go_wp2_with fail
                  refine (CB1.out _ _ _ _ _ hB7).mono ?_
                  rintro e u13 ⟨v13, rfl, hN13⟩
                  have hB13 := hB7.doc hN13.kp hN13.de
                  have hd8 := hd7.kp hN13.kp (fun x hx _ hm => by have := (hq7 x hx).1; simp only [List.mem_cons, List.not_mem_nil, or_false] at hm; omega)
                  obtain ⟨a13, c13, rfl, hd13, _⟩ := hN13.rd
                  have hT13 := hHeld.kp hN13.kp (by simpa using h1q) (by simpa using h2q) (by simpa using hg2)
                  refine hK.out _ _ hT13 (fun _ => ?_)
                  clear hK K hHeld hN13 hd7 hB7
                  have hHeld := hT13
                  clear hT13
                  refine wpAnyH_ready (rs := [14]) (by kernel_rfl) (by simp) ?_
                  refine AllReadyH.cons rfl (fun K hK => ?_) AllReadyH.nil
                  go_simp
                  go_wp2_with fail
                  refine (ssame_any _ _ _ _ _ _ _ hd8 hd13).mono ?_
                  rintro e u14 ⟨rfl, q14, hu14⟩
                  have hb14 : RowKit.Below u13.heap.size u13 u14 := by rw [hu14]; exact below_drewN (Below.refl _ _) q14
                  have hB14 := hB13.on hb14
                  refine hK.out _ _ (hHeld.on hb14) (fun _ => ?_)
                  clear hK K hHeld hu14 hd8 hd13 hB13
                  refine wpAnyH_take (i := 15) (v := ?_) rfl (by kernel_rfl) (by kernel_rfl) (by kernel_rfl) (fun _ _ _ h => h) (Or.inl ⟨by kernel_rfl, ?hy15⟩) (by assumption) ?_
                  case hy15 => (intro w hSw; (try dsimp only at hSw); have t1 := hSw.c1; have t2 := hSw.c2; go_simp; try with_reducible rfl)
                  try simp only [Act.put, List.getElem_toArray, List.getElem_cons_zero, List.getElem_cons_succ, List.setIfInBounds_toArray, List.set_cons_zero, List.set_cons_succ]
                  refine wpAnyH_take (i := 16) (v := ?_) rfl (by kernel_rfl) (by kernel_rfl) (by kernel_rfl) (fun _ _ _ h => h) (Or.inl ⟨by kernel_rfl, ?hy16⟩) (by assumption) ?_
                  case hy16 => (intro w hSw; (try dsimp only at hSw); have t1 := hSw.c1; have t2 := hSw.c2; go_simp; try with_reducible rfl)
                  try simp only [Act.put, List.getElem_toArray, List.getElem_cons_zero, List.getElem_cons_succ, List.setIfInBounds_toArray, List.set_cons_zero, List.set_cons_succ]
                  refine wpAnyH_done (by kernel_rfl) ?_ _
                  go_wp2
                  go_meet
                  exact ⟨rfl, _, _, _, _, hB14⟩
                · have e5 : (((kk : Nat) : Int) == 2) = false := by simp; omega
                  by_cases hk3 : kk = 3
                  · subst hk3
                    have hB0 : Bs w2 W9.drew g q X Y P K X Y P K := HS9.out.on (Below.refl _ _).drew
                    have hT0 : StS b1 (off1 + kp) b2 (off2 + kp) gb (.slice sa sn sc) (.slice ra rn rc) (.cells #[.int .i64 ok, .int .i64 ox, .int .i64 oy, .int .i64 oa] 35 (0, 0)) W9.drew := HT9.out.on (Below.refl _ _).drew
                    have CB2 : Hid (∀ u, Bs w2 u g q X Y P K X Y P K → Calls Try.prog 17 #[.pointer (some ⟨g, 0, none⟩), .int .i64 ox] u fun e w' => ∃ v, e = .returned v ∧ SeR u w' g v (lokN K ox 0 0) X Y P ox) := fun u hu => skeys_any hu.sw.se ox
                    have CB1 : Hid (∀ (u : World) (x' y' P' K' : Int), Bs w2 u g q x' y' P' K' X Y P K → Calls Try.prog 18 #[.pointer (some ⟨q, 0, none⟩), .int .i64 ox] u fun e w' => ∃ v, e = .returned v ∧ DeR u w' q v (lokN K ox 0 0) X Y P ox) := fun u _ _ _ _ hu => rskeys_any hu.de ox
                    generalize lokN K ox 0 0 = l7 at CB1 CB2
                    go_wp2
                    refine wp_region_held_drew (S := StS b1 (off1 + kp) b2 (off2 + kp) gb (.slice sa sn sc) (.slice ra rn rc) (.cells #[.int .i64 ok, .int .i64 ox, .int .i64 oy, .int .i64 oa] 35 (0, 0))) (by kernel_rfl) ?hh (fun hHeld => ?_)
                    case hh => exact (hT0)
                    refine wpAnyH_take (i := 0) (v := ?_) rfl (by kernel_rfl) (by kernel_rfl) (by kernel_rfl) (fun _ _ _ h => h) (Or.inl ⟨by kernel_rfl, ?hy0⟩) (by assumption) ?_
                    case hy0 => (intro w hSw; (try dsimp only at hSw); have t2 := (Lib.cell_of_heap hSw.bx 1).trans rfl; go_simp; try with_reducible rfl)
                    try simp only [Act.put, List.getElem_toArray, List.getElem_cons_zero, List.setIfInBounds_toArray, List.set_cons_zero, List.set_cons_succ]
                    refine wpAnyH_take (i := 1) (v := ?_) rfl (by kernel_rfl) (by kernel_rfl) (by kernel_rfl) (fun _ _ _ h => h) (Or.inl ⟨by kernel_rfl, ?hy1⟩) (by assumption) ?_
                    case hy1 => (intro w hSw; (try dsimp only at hSw); have t2 := (Lib.cell_of_heap hSw.bx 1).trans rfl; go_simp; try with_reducible rfl)
                    try simp only [Act.put, List.getElem_toArray, List.getElem_cons_zero, List.getElem_cons_succ, List.setIfInBounds_toArray, List.set_cons_zero, List.set_cons_succ]
                    refine wpAnyH_take (i := 2) (v := ?_) rfl (by kernel_rfl) (by kernel_rfl) (by kernel_rfl) (fun _ _ _ h => h) (Or.inl ⟨by kernel_rfl, ?hy2⟩) (by assumption) ?_
                    case hy2 => (intro w hSw; (try dsimp only at hSw); have t2 := (Lib.cell_of_heap hSw.bx 1).trans rfl; go_simp; try with_reducible rfl)
                    try simp only [Act.put, List.getElem_toArray, List.getElem_cons_zero, List.getElem_cons_succ, List.setIfInBounds_toArray, List.set_cons_zero, List.set_cons_succ]
                    refine wpAnyH_take (i := 3) (v := ?_) rfl (by kernel_rfl) (by kernel_rfl) (by kernel_rfl) (fun _ _ _ h => h) (Or.inl ⟨by kernel_rfl, ?hy3⟩) (by assumption) ?_
                    case hy3 => (intro w hSw; (try dsimp only at hSw); have t2 := (Lib.cell_of_heap hSw.bx 1).trans rfl; go_simp; try with_reducible rfl)
                    try simp only [Act.put, List.getElem_toArray, List.getElem_cons_zero, List.getElem_cons_succ, List.setIfInBounds_toArray, List.set_cons_zero, List.set_cons_succ]
                    refine wpAnyH_take (i := 4) (v := ?_) rfl (by kernel_rfl) (by kernel_rfl) (by kernel_rfl) (fun _ _ _ h => h) (Or.inl ⟨by kernel_rfl, ?hy4⟩) (by assumption) ?_
                    case hy4 => (intro w hSw; (try dsimp only at hSw); have t2 := (Lib.cell_of_heap hSw.bx 1).trans rfl; go_simp; try with_reducible rfl)
                    try simp only [Act.put, List.getElem_toArray, List.getElem_cons_zero, List.getElem_cons_succ, List.setIfInBounds_toArray, List.set_cons_zero, List.set_cons_succ]
                    refine wpAnyH_take (i := 6) (v := ?_) rfl (by kernel_rfl) (by kernel_rfl) (by kernel_rfl) (fun _ _ _ h => h) (Or.inl ⟨by kernel_rfl, ?hy6⟩) (by assumption) ?_
                    case hy6 => (intro w hSw; (try dsimp only at hSw); have t2 := (Lib.cell_of_heap hSw.bx 1).trans rfl; go_simp; try with_reducible rfl)
                    try simp only [Act.put, List.getElem_toArray, List.getElem_cons_zero, List.getElem_cons_succ, List.setIfInBounds_toArray, List.set_cons_zero, List.set_cons_succ]
                    refine wpAnyH_take (i := 7) (v := ?_) rfl (by kernel_rfl) (by kernel_rfl) (by kernel_rfl) (fun _ _ _ h => h) (Or.inl ⟨by kernel_rfl, ?hy7⟩) (by assumption) ?_
                    case hy7 => (intro w hSw; (try dsimp only at hSw); have t2 := (Lib.cell_of_heap hSw.bx 1).trans rfl; go_simp; try with_reducible rfl)
                    try simp only [Act.put, List.getElem_toArray, List.getElem_cons_zero, List.getElem_cons_succ, List.setIfInBounds_toArray, List.set_cons_zero, List.set_cons_succ]
                    refine wpAnyH_take (i := 8) (v := ?_) rfl (by kernel_rfl) (by kernel_rfl) (by kernel_rfl) (fun _ _ _ h => h) (Or.inl ⟨by kernel_rfl, ?hy8⟩) (by assumption) ?_
                    case hy8 => (intro w hSw; (try dsimp only at hSw); have t2 := (Lib.cell_of_heap hSw.bx 1).trans rfl; go_simp; try with_reducible rfl)
                    try simp only [Act.put, List.getElem_toArray, List.getElem_cons_zero, List.getElem_cons_succ, List.setIfInBounds_toArray, List.set_cons_zero, List.set_cons_succ]
                    refine wpAnyH_ready (rs := [5]) (by kernel_rfl) (by simp) ?_
                    refine AllReadyH.cons rfl (fun K hK => ?_) AllReadyH.nil
                    generalize W9.drew = V0 at hB0 hT0 hHeld hK ⊢
                    have hlq := hB0.de.lt
                    go_simp
                    go_wp2_with fail
                    refine (CB2.out _ hB0).mono ?_
                    rintro e u7 ⟨v7, rfl, hN7⟩
                    have hB7 := hB0.prog hN7.kp hN7.se
                    obtain ⟨a7, c7, rfl, hd7, hq7⟩ := hN7.rd
                    have hT7 := hHeld.kp hN7.kp (by simpa using h1g) (by simpa using h2g) (by simpa using hg1)
                    refine hK.out _ _ hT7 (fun _ => ?_)
                    clear hK K hHeld hN7 hT0 hB0
                    have hHeld := hT7
                    clear hT7
                    refine wpAnyH_ready (rs := [9]) (by kernel_rfl) (by simp) ?_
                    refine AllReadyH.cons rfl (fun K hK => ?_) AllReadyH.nil
                    go_simp
                    go_wp2_with fail
                    refine (CB1.out _ _ _ _ _ hB7).mono ?_
                    rintro e u13 ⟨v13, rfl, hN13⟩
                    have hB13 := hB7.doc hN13.kp hN13.de
                    have hd8 := hd7.kp hN13.kp (fun x hx _ hm => by have := (hq7 x hx).1; simp only [List.mem_cons, List.not_mem_nil, or_false] at hm; omega)
                    obtain ⟨a13, c13, rfl, hd13, _⟩ := hN13.rd
                    have hT13 := hHeld.kp hN13.kp (by simpa using h1q) (by simpa using h2q) (by simpa using hg2)
                    refine hK.out _ _ hT13 (fun _ => ?_)
                    clear hK K hHeld hN13 hd7 hB7
                    have hHeld := hT13
                    clear hT13
                    refine wpAnyH_ready (rs := [10]) (by kernel_rfl) (by simp) ?_
                    refine AllReadyH.cons rfl (fun K hK => ?_) AllReadyH.nil
                    go_simp
                    go_wp2_with fail
                    refine (ssame_any _ _ _ _ _ _ _ hd8 hd13).mono ?_
                    rintro e u14 ⟨rfl, q14, hu14⟩
                    have hb14 : RowKit.Below u13.heap.size u13 u14 := by rw [hu14]; exact below_drewN (Below.refl _ _) q14
                    have hB14 := hB13.on hb14
                    refine hK.out _ _ (hHeld.on hb14) (fun _ => ?_)
                    clear hK K hHeld hu14 hd8 hd13 hB13
                    refine wpAnyH_take (i := 11) (v := ?_) rfl (by kernel_rfl) (by kernel_rfl) (by kernel_rfl) (fun _ _ _ h => h) (Or.inl ⟨by kernel_rfl, ?hy11⟩) (by assumption) ?_
                    case hy11 => (intro w hSw; (try dsimp only at hSw); have t2 := (Lib.cell_of_heap hSw.bx 1).trans rfl; go_simp; try with_reducible rfl)
                    try simp only [Act.put, List.getElem_toArray, List.getElem_cons_zero, List.getElem_cons_succ, List.setIfInBounds_toArray, List.set_cons_zero, List.set_cons_succ]
                    refine wpAnyH_take (i := 12) (v := ?_) rfl (by kernel_rfl) (by kernel_rfl) (by kernel_rfl) (fun _ _ _ h => h) (Or.inl ⟨by kernel_rfl, ?hy12⟩) (by assumption) ?_
                    case hy12 => (intro w hSw; (try dsimp only at hSw); have t2 := (Lib.cell_of_heap hSw.bx 1).trans rfl; go_simp; try with_reducible rfl)
                    try simp only [Act.put, List.getElem_toArray, List.getElem_cons_zero, List.getElem_cons_succ, List.setIfInBounds_toArray, List.set_cons_zero, List.set_cons_succ]
                    refine wpAnyH_done (by kernel_rfl) ?_ _
                    go_wp2
                    go_meet
                    exact ⟨rfl, _, _, _, _, hB14⟩
                  · have e6 : (((kk : Nat) : Int) == 3) = false := by simp; omega
                    by_cases hk4 : kk = 4
                    · subst hk4
                      have k1 : W9.cell? ⟨gb, 1, none⟩ = some (.int .i64 ox) := (Lib.cell_of_heap HT9.out.bx 1).trans rfl
                      have CG := hid (sgone_any HS9.out.sw.se ox)
                      go_wp2_with fail
                      refine CG.out.mono ?_
                      rintro e u7 ⟨⟨v7, rfl⟩, hs7, hk7⟩
                      have hB7 := HS9.out.prog hk7 hs7
                      have hT7 := HT9.out.kp hk7 (by simpa using h1g) (by simpa using h2g) (by simpa using hg1)
                      have k2 : u7.cell? ⟨gb, 1, none⟩ = some (.int .i64 ox) := (Lib.cell_of_heap hT7.bx 1).trans rfl
                      have CG2 := hid (rsgone_any hB7.de ox)
                      have HB7 := hid hB7
                      clear hs7 hk7 hB7 hT7 CG k1
                      go_wp2_with fail
                      refine CG2.out.mono ?_
                      rintro e u8 ⟨⟨v8, rfl⟩, hs8, hk8⟩
                      have HB8 := hid (HB7.out.doc hk8 hs8)
                      clear hs8 hk8 CG2 k2
                      go_wp2
                      go_meet
                      exact ⟨rfl, _, _, _, _, HB8.out⟩
                    · have e7 : (((kk : Nat) : Int) == 4) = false := by simp; omega
                      have hB0 : Bs w2 W9.drew g q X Y P K X Y P K := HS9.out.on (Below.refl _ _).drew
                      have hT0 : StS b1 (off1 + kp) b2 (off2 + kp) gb (.slice sa sn sc) (.slice ra rn rc) (.cells #[.int .i64 ok, .int .i64 ox, .int .i64 oy, .int .i64 oa] 35 (0, 0)) W9.drew := HT9.out.on (Below.refl _ _).drew
                      have CB2 : Hid (∀ u, Bs w2 u g q X Y P K X Y P K → Calls Try.prog 21 #[.pointer (some ⟨g, 0, none⟩), .int .i64 ox, .int .i64 oy, .slice ra rn rc] u fun e w' => ∃ v, e = .returned v ∧ SeR u w' g v (movN P (atL sl (clp ox) (clp oy)).1 (atL sl (clp ox) (clp oy)).2.1 (atL sl (clp ox) (clp oy)).2.2) (clp ox) (clp oy) (atL sl (clp ox) (clp oy)).1 K) := fun u hu => by
                        have := smove_any hu.sw.se ox oy ra rn rc rl (HD2.out.on hu.sw.bel) HA2.out
                        rwa [HAT.out] at this
                      have CB1 : Hid (∀ (u : World) (x' y' P' K' : Int), Bs w2 u g q x' y' P' K' X Y P K → Calls Try.prog 22 #[.pointer (some ⟨q, 0, none⟩), .int .i64 ox, .int .i64 oy, .slice sa sn sc] u fun e w' => ∃ v, e = .returned v ∧ DeR u w' q v (movN P (atL sl (clp ox) (clp oy)).1 (atL sl (clp ox) (clp oy)).2.1 (atL sl (clp ox) (clp oy)).2.2) (clp ox) (clp oy) (atL sl (clp ox) (clp oy)).1 K) := fun u _ _ _ _ hu => rsmove_any hu.de ox oy sa sn sc sl (HD1.out.on hu.sw.bel) HA1.out
                      generalize movN P (atL sl (clp ox) (clp oy)).1 (atL sl (clp ox) (clp oy)).2.1 (atL sl (clp ox) (clp oy)).2.2 = l7 at CB1 CB2
                      generalize (atL sl (clp ox) (clp oy)).1 = s7 at CB1 CB2
                      generalize clp ox = cx at CB1 CB2
                      generalize clp oy = cy at CB1 CB2
                      go_wp2
                      refine wp_region_held_drew (S := StS b1 (off1 + kp) b2 (off2 + kp) gb (.slice sa sn sc) (.slice ra rn rc) (.cells #[.int .i64 ok, .int .i64 ox, .int .i64 oy, .int .i64 oa] 35 (0, 0))) (by kernel_rfl) ?hh (fun hHeld => ?_)
                      case hh => exact (hT0)
                      refine wpAnyH_take (i := 0) (v := ?_) rfl (by kernel_rfl) (by kernel_rfl) (by kernel_rfl) (fun _ _ _ h => h) (Or.inl ⟨by kernel_rfl, ?hy0⟩) (by assumption) ?_
                      case hy0 => (intro w hSw; (try dsimp only at hSw); have t1 := hSw.c1; have t2 := hSw.c2; have t3 := (Lib.cell_of_heap hSw.bx 1).trans rfl; have t4 := (Lib.cell_of_heap hSw.bx 2).trans rfl; go_simp; try with_reducible rfl)
                      try simp only [Act.put, List.getElem_toArray, List.getElem_cons_zero, List.setIfInBounds_toArray, List.set_cons_zero, List.set_cons_succ]
                      refine wpAnyH_take (i := 1) (v := ?_) rfl (by kernel_rfl) (by kernel_rfl) (by kernel_rfl) (fun _ _ _ h => h) (Or.inl ⟨by kernel_rfl, ?hy1⟩) (by assumption) ?_
                      case hy1 => (intro w hSw; (try dsimp only at hSw); have t1 := hSw.c1; have t2 := hSw.c2; have t3 := (Lib.cell_of_heap hSw.bx 1).trans rfl; have t4 := (Lib.cell_of_heap hSw.bx 2).trans rfl; go_simp; try with_reducible rfl)
                      try simp only [Act.put, List.getElem_toArray, List.getElem_cons_zero, List.getElem_cons_succ, List.setIfInBounds_toArray, List.set_cons_zero, List.set_cons_succ]
                      refine wpAnyH_take (i := 2) (v := ?_) rfl (by kernel_rfl) (by kernel_rfl) (by kernel_rfl) (fun _ _ _ h => h) (Or.inl ⟨by kernel_rfl, ?hy2⟩) (by assumption) ?_
                      case hy2 => (intro w hSw; (try dsimp only at hSw); have t1 := hSw.c1; have t2 := hSw.c2; have t3 := (Lib.cell_of_heap hSw.bx 1).trans rfl; have t4 := (Lib.cell_of_heap hSw.bx 2).trans rfl; go_simp; try with_reducible rfl)
                      try simp only [Act.put, List.getElem_toArray, List.getElem_cons_zero, List.getElem_cons_succ, List.setIfInBounds_toArray, List.set_cons_zero, List.set_cons_succ]
                      refine wpAnyH_take (i := 3) (v := ?_) rfl (by kernel_rfl) (by kernel_rfl) (by kernel_rfl) (fun _ _ _ h => h) (Or.inl ⟨by kernel_rfl, ?hy3⟩) (by assumption) ?_
                      case hy3 => (intro w hSw; (try dsimp only at hSw); have t1 := hSw.c1; have t2 := hSw.c2; have t3 := (Lib.cell_of_heap hSw.bx 1).trans rfl; have t4 := (Lib.cell_of_heap hSw.bx 2).trans rfl; go_simp; try with_reducible rfl)
                      try simp only [Act.put, List.getElem_toArray, List.getElem_cons_zero, List.getElem_cons_succ, List.setIfInBounds_toArray, List.set_cons_zero, List.set_cons_succ]
                      refine wpAnyH_take (i := 4) (v := ?_) rfl (by kernel_rfl) (by kernel_rfl) (by kernel_rfl) (fun _ _ _ h => h) (Or.inl ⟨by kernel_rfl, ?hy4⟩) (by assumption) ?_
                      case hy4 => (intro w hSw; (try dsimp only at hSw); have t1 := hSw.c1; have t2 := hSw.c2; have t3 := (Lib.cell_of_heap hSw.bx 1).trans rfl; have t4 := (Lib.cell_of_heap hSw.bx 2).trans rfl; go_simp; try with_reducible rfl)
                      try simp only [Act.put, List.getElem_toArray, List.getElem_cons_zero, List.getElem_cons_succ, List.setIfInBounds_toArray, List.set_cons_zero, List.set_cons_succ]
                      refine wpAnyH_take (i := 5) (v := ?_) rfl (by kernel_rfl) (by kernel_rfl) (by kernel_rfl) (fun _ _ _ h => h) (Or.inl ⟨by kernel_rfl, ?hy5⟩) (by assumption) ?_
                      case hy5 => (intro w hSw; (try dsimp only at hSw); have t1 := hSw.c1; have t2 := hSw.c2; have t3 := (Lib.cell_of_heap hSw.bx 1).trans rfl; have t4 := (Lib.cell_of_heap hSw.bx 2).trans rfl; go_simp; try with_reducible rfl)
                      try simp only [Act.put, List.getElem_toArray, List.getElem_cons_zero, List.getElem_cons_succ, List.setIfInBounds_toArray, List.set_cons_zero, List.set_cons_succ]
                      refine wpAnyH_take (i := 6) (v := ?_) rfl (by kernel_rfl) (by kernel_rfl) (by kernel_rfl) (fun _ _ _ h => h) (Or.inl ⟨by kernel_rfl, ?hy6⟩) (by assumption) ?_
                      case hy6 => (intro w hSw; (try dsimp only at hSw); have t1 := hSw.c1; have t2 := hSw.c2; have t3 := (Lib.cell_of_heap hSw.bx 1).trans rfl; have t4 := (Lib.cell_of_heap hSw.bx 2).trans rfl; go_simp; try with_reducible rfl)
                      try simp only [Act.put, List.getElem_toArray, List.getElem_cons_zero, List.getElem_cons_succ, List.setIfInBounds_toArray, List.set_cons_zero, List.set_cons_succ]
                      refine wpAnyH_take (i := 7) (v := ?_) rfl (by kernel_rfl) (by kernel_rfl) (by kernel_rfl) (fun _ _ _ h => h) (Or.inl ⟨by kernel_rfl, ?hy7⟩) (by assumption) ?_
                      case hy7 => (intro w hSw; (try dsimp only at hSw); have t1 := hSw.c1; have t2 := hSw.c2; have t3 := (Lib.cell_of_heap hSw.bx 1).trans rfl; have t4 := (Lib.cell_of_heap hSw.bx 2).trans rfl; go_simp; try with_reducible rfl)
                      try simp only [Act.put, List.getElem_toArray, List.getElem_cons_zero, List.getElem_cons_succ, List.setIfInBounds_toArray, List.set_cons_zero, List.set_cons_succ]
                      refine wpAnyH_take (i := 8) (v := ?_) rfl (by kernel_rfl) (by kernel_rfl) (by kernel_rfl) (fun _ _ _ h => h) (Or.inl ⟨by kernel_rfl, ?hy8⟩) (by assumption) ?_
                      case hy8 => (intro w hSw; (try dsimp only at hSw); have t1 := hSw.c1; have t2 := hSw.c2; have t3 := (Lib.cell_of_heap hSw.bx 1).trans rfl; have t4 := (Lib.cell_of_heap hSw.bx 2).trans rfl; go_simp; try with_reducible rfl)
                      try simp only [Act.put, List.getElem_toArray, List.getElem_cons_zero, List.getElem_cons_succ, List.setIfInBounds_toArray, List.set_cons_zero, List.set_cons_succ]
                      refine wpAnyH_take (i := 9) (v := ?_) rfl (by kernel_rfl) (by kernel_rfl) (by kernel_rfl) (fun _ _ _ h => h) (Or.inl ⟨by kernel_rfl, ?hy9⟩) (by assumption) ?_
                      case hy9 => (intro w hSw; (try dsimp only at hSw); have t1 := hSw.c1; have t2 := hSw.c2; have t3 := (Lib.cell_of_heap hSw.bx 1).trans rfl; have t4 := (Lib.cell_of_heap hSw.bx 2).trans rfl; go_simp; try with_reducible rfl)
                      try simp only [Act.put, List.getElem_toArray, List.getElem_cons_zero, List.getElem_cons_succ, List.setIfInBounds_toArray, List.set_cons_zero, List.set_cons_succ]
                      refine wpAnyH_take (i := 10) (v := ?_) rfl (by kernel_rfl) (by kernel_rfl) (by kernel_rfl) (fun _ _ _ h => h) (Or.inl ⟨by kernel_rfl, ?hy10⟩) (by assumption) ?_
                      case hy10 => (intro w hSw; (try dsimp only at hSw); have t1 := hSw.c1; have t2 := hSw.c2; have t3 := (Lib.cell_of_heap hSw.bx 1).trans rfl; have t4 := (Lib.cell_of_heap hSw.bx 2).trans rfl; go_simp; try with_reducible rfl)
                      try simp only [Act.put, List.getElem_toArray, List.getElem_cons_zero, List.getElem_cons_succ, List.setIfInBounds_toArray, List.set_cons_zero, List.set_cons_succ]
                      refine wpAnyH_take (i := 12) (v := ?_) rfl (by kernel_rfl) (by kernel_rfl) (by kernel_rfl) (fun _ _ _ h => h) (Or.inl ⟨by kernel_rfl, ?hy12⟩) (by assumption) ?_
                      case hy12 => (intro w hSw; (try dsimp only at hSw); have t1 := hSw.c1; have t2 := hSw.c2; have t3 := (Lib.cell_of_heap hSw.bx 1).trans rfl; have t4 := (Lib.cell_of_heap hSw.bx 2).trans rfl; go_simp; try with_reducible rfl)
                      try simp only [Act.put, List.getElem_toArray, List.getElem_cons_zero, List.getElem_cons_succ, List.setIfInBounds_toArray, List.set_cons_zero, List.set_cons_succ]
                      refine wpAnyH_take (i := 13) (v := ?_) rfl (by kernel_rfl) (by kernel_rfl) (by kernel_rfl) (fun _ _ _ h => h) (Or.inl ⟨by kernel_rfl, ?hy13⟩) (by assumption) ?_
                      case hy13 => (intro w hSw; (try dsimp only at hSw); have t1 := hSw.c1; have t2 := hSw.c2; have t3 := (Lib.cell_of_heap hSw.bx 1).trans rfl; have t4 := (Lib.cell_of_heap hSw.bx 2).trans rfl; go_simp; try with_reducible rfl)
                      try simp only [Act.put, List.getElem_toArray, List.getElem_cons_zero, List.getElem_cons_succ, List.setIfInBounds_toArray, List.set_cons_zero, List.set_cons_succ]
                      refine wpAnyH_take (i := 14) (v := ?_) rfl (by kernel_rfl) (by kernel_rfl) (by kernel_rfl) (fun _ _ _ h => h) (Or.inl ⟨by kernel_rfl, ?hy14⟩) (by assumption) ?_
                      case hy14 => (intro w hSw; (try dsimp only at hSw); have t1 := hSw.c1; have t2 := hSw.c2; have t3 := (Lib.cell_of_heap hSw.bx 1).trans rfl; have t4 := (Lib.cell_of_heap hSw.bx 2).trans rfl; go_simp; try with_reducible rfl)
                      try simp only [Act.put, List.getElem_toArray, List.getElem_cons_zero, List.getElem_cons_succ, List.setIfInBounds_toArray, List.set_cons_zero, List.set_cons_succ]
                      refine wpAnyH_take (i := 15) (v := ?_) rfl (by kernel_rfl) (by kernel_rfl) (by kernel_rfl) (fun _ _ _ h => h) (Or.inl ⟨by kernel_rfl, ?hy15⟩) (by assumption) ?_
                      case hy15 => (intro w hSw; (try dsimp only at hSw); have t1 := hSw.c1; have t2 := hSw.c2; have t3 := (Lib.cell_of_heap hSw.bx 1).trans rfl; have t4 := (Lib.cell_of_heap hSw.bx 2).trans rfl; go_simp; try with_reducible rfl)
                      try simp only [Act.put, List.getElem_toArray, List.getElem_cons_zero, List.getElem_cons_succ, List.setIfInBounds_toArray, List.set_cons_zero, List.set_cons_succ]
                      refine wpAnyH_take (i := 16) (v := ?_) rfl (by kernel_rfl) (by kernel_rfl) (by kernel_rfl) (fun _ _ _ h => h) (Or.inl ⟨by kernel_rfl, ?hy16⟩) (by assumption) ?_
                      case hy16 => (intro w hSw; (try dsimp only at hSw); have t1 := hSw.c1; have t2 := hSw.c2; have t3 := (Lib.cell_of_heap hSw.bx 1).trans rfl; have t4 := (Lib.cell_of_heap hSw.bx 2).trans rfl; go_simp; try with_reducible rfl)
                      try simp only [Act.put, List.getElem_toArray, List.getElem_cons_zero, List.getElem_cons_succ, List.setIfInBounds_toArray, List.set_cons_zero, List.set_cons_succ]
                      refine wpAnyH_take (i := 17) (v := ?_) rfl (by kernel_rfl) (by kernel_rfl) (by kernel_rfl) (fun _ _ _ h => h) (Or.inl ⟨by kernel_rfl, ?hy17⟩) (by assumption) ?_
                      case hy17 => (intro w hSw; (try dsimp only at hSw); have t1 := hSw.c1; have t2 := hSw.c2; have t3 := (Lib.cell_of_heap hSw.bx 1).trans rfl; have t4 := (Lib.cell_of_heap hSw.bx 2).trans rfl; go_simp; try with_reducible rfl)
                      try simp only [Act.put, List.getElem_toArray, List.getElem_cons_zero, List.getElem_cons_succ, List.setIfInBounds_toArray, List.set_cons_zero, List.set_cons_succ]
                      refine wpAnyH_take (i := 18) (v := ?_) rfl (by kernel_rfl) (by kernel_rfl) (by kernel_rfl) (fun _ _ _ h => h) (Or.inl ⟨by kernel_rfl, ?hy18⟩) (by assumption) ?_
                      case hy18 => (intro w hSw; (try dsimp only at hSw); have t1 := hSw.c1; have t2 := hSw.c2; have t3 := (Lib.cell_of_heap hSw.bx 1).trans rfl; have t4 := (Lib.cell_of_heap hSw.bx 2).trans rfl; go_simp; try with_reducible rfl)
                      try simp only [Act.put, List.getElem_toArray, List.getElem_cons_zero, List.getElem_cons_succ, List.setIfInBounds_toArray, List.set_cons_zero, List.set_cons_succ]
                      refine wpAnyH_take (i := 19) (v := ?_) rfl (by kernel_rfl) (by kernel_rfl) (by kernel_rfl) (fun _ _ _ h => h) (Or.inl ⟨by kernel_rfl, ?hy19⟩) (by assumption) ?_
                      case hy19 => (intro w hSw; (try dsimp only at hSw); have t1 := hSw.c1; have t2 := hSw.c2; have t3 := (Lib.cell_of_heap hSw.bx 1).trans rfl; have t4 := (Lib.cell_of_heap hSw.bx 2).trans rfl; go_simp; try with_reducible rfl)
                      try simp only [Act.put, List.getElem_toArray, List.getElem_cons_zero, List.getElem_cons_succ, List.setIfInBounds_toArray, List.set_cons_zero, List.set_cons_succ]
                      refine wpAnyH_take (i := 20) (v := ?_) rfl (by kernel_rfl) (by kernel_rfl) (by kernel_rfl) (fun _ _ _ h => h) (Or.inl ⟨by kernel_rfl, ?hy20⟩) (by assumption) ?_
                      case hy20 => (intro w hSw; (try dsimp only at hSw); have t1 := hSw.c1; have t2 := hSw.c2; have t3 := (Lib.cell_of_heap hSw.bx 1).trans rfl; have t4 := (Lib.cell_of_heap hSw.bx 2).trans rfl; go_simp; try with_reducible rfl)
                      try simp only [Act.put, List.getElem_toArray, List.getElem_cons_zero, List.getElem_cons_succ, List.setIfInBounds_toArray, List.set_cons_zero, List.set_cons_succ]
                      refine wpAnyH_ready (rs := [11]) (by kernel_rfl) (by simp) ?_
                      refine AllReadyH.cons rfl (fun K hK => ?_) AllReadyH.nil
                      generalize W9.drew = V0 at hB0 hT0 hHeld hK ⊢
                      have hlq := hB0.de.lt
                      go_simp
                      go_wp2_with fail
                      refine (CB2.out _ hB0).mono ?_
                      rintro e u7 ⟨v7, rfl, hN7⟩
                      have hB7 := hB0.prog hN7.kp hN7.se
                      obtain ⟨a7, c7, rfl, hd7, hq7⟩ := hN7.rd
                      have hT7 := hHeld.kp hN7.kp (by simpa using h1g) (by simpa using h2g) (by simpa using hg1)
                      refine hK.out _ _ hT7 (fun _ => ?_)
                      clear hK K hHeld hN7 hT0 hB0
                      have hHeld := hT7
                      clear hT7
                      refine wpAnyH_ready (rs := [21]) (by kernel_rfl) (by simp) ?_
                      refine AllReadyH.cons rfl (fun K hK => ?_) AllReadyH.nil
                      go_simp
                      go_wp2_with fail
                      refine (CB1.out _ _ _ _ _ hB7).mono ?_
                      rintro e u13 ⟨v13, rfl, hN13⟩
                      have hB13 := hB7.doc hN13.kp hN13.de
                      have hd8 := hd7.kp hN13.kp (fun x hx _ hm => by have := (hq7 x hx).1; simp only [List.mem_cons, List.not_mem_nil, or_false] at hm; omega)
                      obtain ⟨a13, c13, rfl, hd13, _⟩ := hN13.rd
                      have hT13 := hHeld.kp hN13.kp (by simpa using h1q) (by simpa using h2q) (by simpa using hg2)
                      refine hK.out _ _ hT13 (fun _ => ?_)
                      clear hK K hHeld hN13 hd7 hB7
                      have hHeld := hT13
                      clear hT13
                      refine wpAnyH_ready (rs := [22]) (by kernel_rfl) (by simp) ?_
                      refine AllReadyH.cons rfl (fun K hK => ?_) AllReadyH.nil
                      go_simp
                      go_wp2_with fail
                      refine (ssame_any _ _ _ _ _ _ _ hd8 hd13).mono ?_
                      rintro e u14 ⟨rfl, q14, hu14⟩
                      have hb14 : RowKit.Below u13.heap.size u13 u14 := by rw [hu14]; exact below_drewN (Below.refl _ _) q14
                      have hB14 := hB13.on hb14
                      refine hK.out _ _ (hHeld.on hb14) (fun _ => ?_)
                      clear hK K hHeld hu14 hd8 hd13 hB13
                      refine wpAnyH_take (i := 23) (v := ?_) rfl (by kernel_rfl) (by kernel_rfl) (by kernel_rfl) (fun _ _ _ h => h) (Or.inl ⟨by kernel_rfl, ?hy23⟩) (by assumption) ?_
                      case hy23 => (intro w hSw; (try dsimp only at hSw); have t1 := hSw.c1; have t2 := hSw.c2; have t3 := (Lib.cell_of_heap hSw.bx 1).trans rfl; have t4 := (Lib.cell_of_heap hSw.bx 2).trans rfl; go_simp; try with_reducible rfl)
                      try simp only [Act.put, List.getElem_toArray, List.getElem_cons_zero, List.getElem_cons_succ, List.setIfInBounds_toArray, List.set_cons_zero, List.set_cons_succ]
                      refine wpAnyH_take (i := 24) (v := ?_) rfl (by kernel_rfl) (by kernel_rfl) (by kernel_rfl) (fun _ _ _ h => h) (Or.inl ⟨by kernel_rfl, ?hy24⟩) (by assumption) ?_
                      case hy24 => (intro w hSw; (try dsimp only at hSw); have t1 := hSw.c1; have t2 := hSw.c2; have t3 := (Lib.cell_of_heap hSw.bx 1).trans rfl; have t4 := (Lib.cell_of_heap hSw.bx 2).trans rfl; go_simp; try with_reducible rfl)
                      try simp only [Act.put, List.getElem_toArray, List.getElem_cons_zero, List.getElem_cons_succ, List.setIfInBounds_toArray, List.set_cons_zero, List.set_cons_succ]
                      refine wpAnyH_done (by kernel_rfl) ?_ _
                      go_wp2
                      go_meet
                      exact ⟨rfl, _, _, _, _, hB14⟩
              case rest =>
                obtain ⟨rfl, P', K', X', Y', hB⟩ := hcut
                have HB := hid hB
                have CF1 := hid (sfocus_any hB.sw.se)
                clear hB HS9 HT9
                go_wp2_with fail
                refine CF1.out.mono ?_
                rintro e w7 ⟨rfl, q7, hw7⟩
                have hb7 : RowKit.Below wc.heap.size wc w7 := by rw [hw7]; exact below_drewN (Below.refl _ _) q7
                have HB7 := hid (HB.out.on hb7)
                have CF2 := hid (splace_any HB7.out.sw.se)
                clear CF1 hw7 hb7
                go_wp2_with fail
                refine CF2.out.mono ?_
                rintro e w8 ⟨rfl, q8, hw8⟩
                have hb8 : RowKit.Below w7.heap.size w7 w8 := by rw [hw8]; exact below_drewN (Below.refl _ _) q8
                have HB8 := hid (HB7.out.on hb8)
                obtain ⟨f0, f1, f2, f3⟩ := HB8.out.de.cells
                have e5 : (P' != P') = false := by simp
                have e6 : (K' != K') = false := by simp
                have e7 : (X' != X') = false := by simp
                have e8 : (Y' != Y') = false := by simp
                clear CF2 hw8 hb8
                go_wp2
                go_roundw
                case rel => exact ⟨j + 1, P', K', X', Y', by go_num, by omega, by omega, HB8.out⟩
                case measure => simp [numOf]; omega
          · have HS := hid hsw.sw.bel
            clear hsw HQ4
            by_cases hjn : j < n1
            · have e2 : decide ((j : Int) < (n1 : Int)) = true := decide_eq_true (by omega)
              have e3 : decide ((j : Int) < 60) = false := decide_eq_false (by omega)
              go_wp2_with fail
              refine (sawake_any wr).mono ?_
              rintro e w5 ⟨rfl, hb5⟩
              have HB5 := hid (Below.on (Below.on HB2.out HS.out) hb5)
              clear hb5
              go_wp2
              go_ret
              exact ⟨rfl, HB5.out⟩
            · have e2 : decide ((j : Int) < (n1 : Int)) = false := decide_eq_false (by omega)
              go_wp2_with fail
              refine (sawake_any wr).mono ?_
              rintro e w5 ⟨rfl, hb5⟩
              have HB5 := hid (Below.on (Below.on HB2.out HS.out) hb5)
              clear hb5
              go_wp2
              go_ret
              exact ⟨rfl, HB5.out⟩
end Go.Proofs.Ytegmolmjoiklpaa.seatPlays
