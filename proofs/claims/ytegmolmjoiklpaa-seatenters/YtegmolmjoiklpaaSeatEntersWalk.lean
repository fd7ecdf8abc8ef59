/- SeatEnters: for every slice of lists of surfaces and every slice of calls the call returns true; nothing that was there has turned. -/
import Derived.Test.YtegmolmjoiklpaaSeN
import Derived.LaidMore
import Derived.Deep.CutBlock
import Derived.Deep.DeepCutAuto
namespace Go.Proofs.Ytegmolmjoiklpaa.seatEnters
open Go Go.RowKit

theorem apt_of {g : Nat} {w : World} {r : Rw} (h : RdH w r.a r.n r.c r.l) (hg : w.heap.size ≤ g) : Apt [g] r.a r.n r.l := h.apt fun k hk => by
  simp only [List.mem_cons, List.not_mem_nil, or_false] at hk
  omega
/-- What a call of the round leaves: the notes, the seat, the call's own block. -/
def EnR (w2 : World) (g gb : Nat) (box : Obj) (mo : Bool) (P K : Int) (v : Value) (wx : World) : Prop :=
  ∃ (l : List (List Int)) (s X Y : Int) (a : Option Addr) (c : Nat), v = .slice a l.length c ∧ RdM 4 wx a l.length c l ∧ Sw w2 wx g X Y s K ∧ l.length ≤ 2 ∧ PlyOk mo P s l ∧ wx.heap[gb]? = some box
set_option maxRecDepth 100000 in
set_option maxHeartbeats 4000000 in
theorem walk (a : Option Addr) (n c : Nat) (L : List Rw) (a1 : Option Addr) (n1 c1 : Nat) (os : List (List Int)) (w : World) (h0 : RdR w a n c L) (h1 : RdN 4 w a1 n1 c1 os) :
    Calls Try.prog 4 #[.slice a n c, .slice a1 n1 c1] w fun e w' => e = .returned (.bool true) ∧ Below w.heap.size w w' := by
  have hs0 := h0.small
  have hs1 := (rdm_of_rdn (by omega) h1).small
  have HL := hid h0.len
  have H0 := hid h0
  have H1 := hid (rdm_of_rdn (by omega) h1)
  have HW := hid h1.wf
  have CF := hid (few_any a n c L w h0)
  clear h0 h1
  go_enter Try.func4, Try.ntmps4
  go_wp2_with fail
  refine CF.out.mono ?_
  rintro e w2 ⟨hb2, rfl | ⟨a2, c2, L2, rfl, hl2, hl6, hr2, hc2⟩⟩
  · have HB2 := hid hb2
    clear hb2 CF
    go_wp2_with fail
    refine (swnew w2).mono ?_
    rintro e w3 ⟨rfl, hq⟩
    have HQ := hid (Below.on HB2.out hq.bel)
    clear hq
    go_wp2_with fail
    refine (sawake_any w3).mono ?_
    rintro e w4 ⟨rfl, hb4⟩
    have HB4 := hid (Below.on HQ.out hb4)
    clear hb4
    go_wp2
    go_ret
    exact ⟨rfl, HB4.out⟩
  · have HB2 := hid hb2
    have HR2 := hid hr2
    have HLL := hid hl2
    rw [HL.out] at hl6 HR2 ⊢
    clear hb2 CF hr2 hl2 hc2
    go_wp2_with fail
    refine (swnew w2).mono ?_
    rintro e w3 ⟨rfl, hq⟩
    have HQ := hid hq
    clear hq
    obtain ⟨g, hg⟩ : ∃ g, g = w2.heap.size := ⟨_, rfl⟩
    rw [← hg] at HQ ⊢
    have hgle : w2.heap.size ≤ g := by omega
    clear hg
    by_cases hn0 : n = 0
    · have e1 : ((n : Int) == 0) = true := by simp [hn0]
      clear hn0
      go_wp2_with fail
      refine (sawake_any w3).mono ?_
      rintro e w4 ⟨rfl, hb4⟩
      have HB4 := hid (Below.on (Below.on HB2.out HQ.out.bel) hb4)
      clear hb4
      go_wp2
      go_ret
      exact ⟨rfl, HB4.out⟩
    · have e1 : ((n : Int) == 0) = false := by simpa using hn0
      have CA := hid (far_any a n c L w3 (H0.out.on (Below.on HB2.out HQ.out.bel)))
      go_wp2_with fail
      refine CA.out.mono ?_
      rintro e w4 ⟨hb4, q, rfl⟩
      have HB4 := hid hb4
      clear hb4 CA
      cases q with
      | true =>
        go_wp2_with fail
        refine (sawake_any w4).mono ?_
        rintro e w5 ⟨rfl, hb5⟩
        have HB5 := hid (Below.on (Below.on (Below.on HB2.out HQ.out.bel) HB4.out) hb5)
        clear hb5
        go_wp2
        go_ret
        exact ⟨rfl, HB5.out⟩
      | false =>
        have HQ4 := hid (HQ.out.on HB4.out)
        clear HQ HB4
        go_wp2
        go_loopw [8, 9] (fun v i wr => ∃ (j : Nat) (P K X Y : Int), v = .int .i64 P ∧ i = .int .i64 j ∧ j ≤ n1 ∧ j ≤ 60 ∧ Sw w2 wr g X Y P K) (fun _ i _ => n1 - (numOf i).toNat)
        case atStart => exact ⟨0, 0, 0, 0, 0, rfl, rfl, by omega, by omega, HQ4.out⟩
        case round =>
          obtain ⟨j, P, K, X, Y, rfl, rfl, hj, hj60, hsw⟩ := hrel
          by_cases hgo : j < n1 ∧ j < 60
          · obtain ⟨hgo1, hgo2⟩ := hgo
            have e2 : decide ((j : Int) < (n1 : Int)) = true := decide_eq_true (by omega)
            have e3 : decide ((j : Int) < 60) = true := decide_eq_true (by omega)
            have e4 : (j : Int) < (n1 : Int) := by omega
            obtain ⟨b, off, ok, ox, oy, oa, rfl, hb, hr, c0, c1', c2', c3⟩ := (H1.out.on (Below.on HB2.out hsw.bel)).el4 hgo1
            have hm := List.mem_of_getElem? hr
            have HMX := hid (wf64 (HW.out _ hm ox (by simp)))
            have CP := hid (place_any oa n (wf64 (HW.out _ hm oa (by simp))) (by omega) (by omega))
            have hpl := plc_lt oa n (by omega)
            generalize plc oa n = kp at CP hpl
            have HS := hid hsw
            clear hsw hr hm HQ4
            go_upto_region 11 with fail
            obtain ⟨gb, hgb⟩ : ∃ gb, gb = wr.heap.size := ⟨_, rfl⟩
            obtain ⟨W1, hW1⟩ : ∃ W1, W1 = wr.alloc (.cells #[.int .i64 ok, .int .i64 ox, .int .i64 oy, .int .i64 oa] 35) := ⟨_, rfl⟩
            have hbx : W1.heap[gb]? = some (.cells #[.int .i64 ok, .int .i64 ox, .int .i64 oy, .int .i64 oa] 35 (0, 0)) := by rw [hW1, hgb]; exact hp_nw wr _ rfl
            have HS1 : Hid (Sw w2 W1 g X Y P K) := by rw [Hid, hW1]; exact HS.out.on (bel_nw wr _)
            have hgne : gb ≠ g := by have := HS.out.se.lt; omega
            rw [← hW1, ← hgb]
            obtain ⟨b2, off2, ⟨ra, rn, rc, rl⟩, ha2, hb2, hr2, hrd2, cr2⟩ := HR2.out.at_ hpl
            simp only at hrd2 cr2
            subst ha2
            have HAP := hid (apt_of (r := ⟨ra, rn, rc, rl⟩) hrd2 hgle)
            have HRD1 := hid (hrd2.on HS1.out.bel)
            have cr1 : W1.cell? ⟨b2, off2 + kp, none⟩ = some (.slice ra rn rc) := by rw [HS1.out.bel.cell hb2]; exact cr2
            have hbg : b2 ≠ g := by omega
            have k0 : W1.cell? ⟨gb, 0, none⟩ = some (.int .i64 ok) := (Lib.cell_of_heap hbx 0).trans rfl
            have k3 : W1.cell? ⟨gb, 3, none⟩ = some (.int .i64 oa) := (Lib.cell_of_heap hbx 3).trans rfl
            have hkn : (kp : Int) < (n : Int) := by omega
            have HBX := hid hbx
            obtain ⟨mo, hmo⟩ : ∃ mo : Bool, mo = (bits BinOp.and IntKind.i64 ok 1 == 0) := ⟨_, rfl⟩
            have HMO := hid hmo
            clear hbx hr2 hrd2 cr2 hW1 hgb hmo c0 c1' c2' c3
            go_upto_if 58 with fail
            go_cut [11] from 41 to 152 (fun v wx => EnR w2 g gb (.cells #[.int .i64 ok, .int .i64 ox, .int .i64 oy, .int .i64 oa] 35 (0, 0)) mo P K v wx)
            case first =>
              cases hk : (bits BinOp.and IntKind.i64 ok 1 == 0)
              · rw [hk] at HMO
                have HMF := hid HMO.out
                have CL := hid (slook_any HS1.out.se ra rn rc rl HRD1.out)
                go_wp2_with fail
                refine (CP.out _).mono ?_
                rintro e u ⟨rfl, rfl⟩
                go_wp2_with fail
                refine CL.out.mono ?_
                rintro e w6 ⟨v6, rfl, hR6⟩
                have hS6 := HS1.out.then hR6.kp hR6.se
                obtain ⟨a6, c6, rfl, hd6, _⟩ := hR6.rd
                have hb6 := hR6.kp.var HBX.out (by simpa using hgne)
                have HE6 : Hid (EnR w2 g gb (.cells #[.int .i64 ok, .int .i64 ox, .int .i64 oy, .int .i64 oa] 35 (0, 0)) mo P K (.slice a6 (lokN P (atL rl X Y).1 (atL rl X Y).2.1 (atL rl X Y).2.2).length c6) w6) := ⟨_, _, _, _, _, _, rfl, hd6, hS6, lok_len _ _ _ _, ply_lok _ _ _ _ _, hb6⟩
                clear hR6 hS6 hd6 hb6 CL
                go_wp2
                go_meet
                exact HE6.out
              · rw [hk] at HMO
                have hmt : mo = true := HMO.out
                have hb0 : RowKit.Below W1.heap.size W1 W1.drew := (Below.refl _ _).drew
                have hX0 : W1.drew.heap[gb]? = some (.cells #[.int .i64 ok, .int .i64 ox, .int .i64 oy, .int .i64 oa] 35 (0, 0)) ∧ W1.drew.cell? ⟨b2, off2 + kp, none⟩ = some (.slice ra rn rc) := ⟨HBX.out, cr1⟩
                subst hmt
                go_wp2
                clear k0 k3 cr1
                refine wp_region_held_drew (S := fun u => u.heap[gb]? = some (.cells #[.int .i64 ok, .int .i64 ox, .int .i64 oy, .int .i64 oa] 35 (0, 0)) ∧ u.cell? ⟨b2, off2 + kp, none⟩ = some (.slice ra rn rc)) (by kernel_rfl) ?hh (fun hHeld => ?_)
                case hh => exact (hX0)
                refine wpAnyH_take (i := 0) (v := ?_) rfl (by kernel_rfl) (by kernel_rfl) (by kernel_rfl) (fun _ _ _ h => h) (Or.inl ⟨by kernel_rfl, ?hy0⟩) (by assumption) ?_
                case hy0 => (intro w hSw; (try dsimp only at hSw); have k1 := (Lib.cell_of_heap hSw.1 1).trans rfl; have k2 := (Lib.cell_of_heap hSw.1 2).trans rfl; have k3 := (Lib.cell_of_heap hSw.1 3).trans rfl; have k5 := hSw.2; go_simp; try with_reducible rfl)
                try simp only [Act.put, List.getElem_toArray, List.getElem_cons_zero, List.setIfInBounds_toArray, List.set_cons_zero, List.set_cons_succ]
                refine wpAnyH_take (i := 1) (v := ?_) rfl (by kernel_rfl) (by kernel_rfl) (by kernel_rfl) (fun _ _ _ h => h) (Or.inl ⟨by kernel_rfl, ?hy1⟩) (by assumption) ?_
                case hy1 => (intro w hSw; (try dsimp only at hSw); have k1 := (Lib.cell_of_heap hSw.1 1).trans rfl; have k2 := (Lib.cell_of_heap hSw.1 2).trans rfl; have k3 := (Lib.cell_of_heap hSw.1 3).trans rfl; have k5 := hSw.2; go_simp; try with_reducible rfl)
                try simp only [Act.put, List.getElem_toArray, List.getElem_cons_zero, List.getElem_cons_succ, List.setIfInBounds_toArray, List.set_cons_zero, List.set_cons_succ]
                refine wpAnyH_take (i := 2) (v := ?_) rfl (by kernel_rfl) (by kernel_rfl) (by kernel_rfl) (fun _ _ _ h => h) (Or.inl ⟨by kernel_rfl, ?hy2⟩) (by assumption) ?_
                case hy2 => (intro w hSw; (try dsimp only at hSw); have k1 := (Lib.cell_of_heap hSw.1 1).trans rfl; have k2 := (Lib.cell_of_heap hSw.1 2).trans rfl; have k3 := (Lib.cell_of_heap hSw.1 3).trans rfl; have k5 := hSw.2; go_simp; try with_reducible rfl)
                try simp only [Act.put, List.getElem_toArray, List.getElem_cons_zero, List.getElem_cons_succ, List.setIfInBounds_toArray, List.set_cons_zero, List.set_cons_succ]
                refine wpAnyH_take (i := 3) (v := ?_) rfl (by kernel_rfl) (by kernel_rfl) (by kernel_rfl) (fun _ _ _ h => h) (Or.inl ⟨by kernel_rfl, ?hy3⟩) (by assumption) ?_
                case hy3 => (intro w hSw; (try dsimp only at hSw); have k1 := (Lib.cell_of_heap hSw.1 1).trans rfl; have k2 := (Lib.cell_of_heap hSw.1 2).trans rfl; have k3 := (Lib.cell_of_heap hSw.1 3).trans rfl; have k5 := hSw.2; go_simp; try with_reducible rfl)
                try simp only [Act.put, List.getElem_toArray, List.getElem_cons_zero, List.getElem_cons_succ, List.setIfInBounds_toArray, List.set_cons_zero, List.set_cons_succ]
                refine wpAnyH_take (i := 4) (v := ?_) rfl (by kernel_rfl) (by kernel_rfl) (by kernel_rfl) (fun _ _ _ h => h) (Or.inl ⟨by kernel_rfl, ?hy4⟩) (by assumption) ?_
                case hy4 => (intro w hSw; (try dsimp only at hSw); have k1 := (Lib.cell_of_heap hSw.1 1).trans rfl; have k2 := (Lib.cell_of_heap hSw.1 2).trans rfl; have k3 := (Lib.cell_of_heap hSw.1 3).trans rfl; have k5 := hSw.2; go_simp; try with_reducible rfl)
                try simp only [Act.put, List.getElem_toArray, List.getElem_cons_zero, List.getElem_cons_succ, List.setIfInBounds_toArray, List.set_cons_zero, List.set_cons_succ]
                refine wpAnyH_take (i := 5) (v := ?_) rfl (by kernel_rfl) (by kernel_rfl) (by kernel_rfl) (fun _ _ _ h => h) (Or.inl ⟨by kernel_rfl, ?hy5⟩) (by assumption) ?_
                case hy5 => (intro w hSw; (try dsimp only at hSw); have k1 := (Lib.cell_of_heap hSw.1 1).trans rfl; have k2 := (Lib.cell_of_heap hSw.1 2).trans rfl; have k3 := (Lib.cell_of_heap hSw.1 3).trans rfl; have k5 := hSw.2; go_simp; try with_reducible rfl)
                try simp only [Act.put, List.getElem_toArray, List.getElem_cons_zero, List.getElem_cons_succ, List.setIfInBounds_toArray, List.set_cons_zero, List.set_cons_succ]
                refine wpAnyH_take (i := 6) (v := ?_) rfl (by kernel_rfl) (by kernel_rfl) (by kernel_rfl) (fun _ _ _ h => h) (Or.inl ⟨by kernel_rfl, ?hy6⟩) (by assumption) ?_
                case hy6 => (intro w hSw; (try dsimp only at hSw); have k1 := (Lib.cell_of_heap hSw.1 1).trans rfl; have k2 := (Lib.cell_of_heap hSw.1 2).trans rfl; have k3 := (Lib.cell_of_heap hSw.1 3).trans rfl; have k5 := hSw.2; go_simp; try with_reducible rfl)
                try simp only [Act.put, List.getElem_toArray, List.getElem_cons_zero, List.getElem_cons_succ, List.setIfInBounds_toArray, List.set_cons_zero, List.set_cons_succ]
                refine wpAnyH_take (i := 7) (v := ?_) rfl (by kernel_rfl) (by kernel_rfl) (by kernel_rfl) (fun _ _ _ h => h) (Or.inl ⟨by kernel_rfl, ?hy7⟩) (by assumption) ?_
                case hy7 => (intro w hSw; (try dsimp only at hSw); have k1 := (Lib.cell_of_heap hSw.1 1).trans rfl; have k2 := (Lib.cell_of_heap hSw.1 2).trans rfl; have k3 := (Lib.cell_of_heap hSw.1 3).trans rfl; have k5 := hSw.2; go_simp; try with_reducible rfl)
                try simp only [Act.put, List.getElem_toArray, List.getElem_cons_zero, List.getElem_cons_succ, List.setIfInBounds_toArray, List.set_cons_zero, List.set_cons_succ]
                refine wpAnyH_take (i := 8) (v := ?_) rfl (by kernel_rfl) (by kernel_rfl) (by kernel_rfl) (fun _ _ _ h => h) (Or.inl ⟨by kernel_rfl, ?hy8⟩) (by assumption) ?_
                case hy8 => (intro w hSw; (try dsimp only at hSw); have k1 := (Lib.cell_of_heap hSw.1 1).trans rfl; have k2 := (Lib.cell_of_heap hSw.1 2).trans rfl; have k3 := (Lib.cell_of_heap hSw.1 3).trans rfl; have k5 := hSw.2; go_simp; try with_reducible rfl)
                try simp only [Act.put, List.getElem_toArray, List.getElem_cons_zero, List.getElem_cons_succ, List.setIfInBounds_toArray, List.set_cons_zero, List.set_cons_succ]
                refine wpAnyH_take (i := 9) (v := ?_) rfl (by kernel_rfl) (by kernel_rfl) (by kernel_rfl) (fun _ _ _ h => h) (Or.inl ⟨by kernel_rfl, ?hy9⟩) (by assumption) ?_
                case hy9 => (intro w hSw; (try dsimp only at hSw); have k1 := (Lib.cell_of_heap hSw.1 1).trans rfl; have k2 := (Lib.cell_of_heap hSw.1 2).trans rfl; have k3 := (Lib.cell_of_heap hSw.1 3).trans rfl; have k5 := hSw.2; go_simp; try with_reducible rfl)
                try simp only [Act.put, List.getElem_toArray, List.getElem_cons_zero, List.getElem_cons_succ, List.setIfInBounds_toArray, List.set_cons_zero, List.set_cons_succ]
                refine wpAnyH_ready (rs := [10]) (by kernel_rfl) (by simp) ?_
                refine AllReadyH.cons rfl (fun K hK => ?_) AllReadyH.nil
                generalize W1.drew = V0 at hb0 hX0 hHeld hK ⊢
                go_simp
                go_wp2_with fail
                refine (CP.out _).mono ?_
                rintro e u ⟨rfl, rfl⟩
                refine hK.out _ _ hHeld (fun _ => ?_)
                clear hK K
                refine wpAnyH_take (i := 11) (v := ?_) rfl (by kernel_rfl) (by kernel_rfl) (by kernel_rfl) (fun _ _ _ h => h) (Or.inl ⟨by kernel_rfl, ?hy11⟩) (by assumption) ?_
                case hy11 => (intro w hSw; (try dsimp only at hSw); have k1 := (Lib.cell_of_heap hSw.1 1).trans rfl; have k2 := (Lib.cell_of_heap hSw.1 2).trans rfl; have k3 := (Lib.cell_of_heap hSw.1 3).trans rfl; have k5 := hSw.2; go_simp; try with_reducible rfl)
                try simp only [Act.put, List.getElem_toArray, List.getElem_cons_zero, List.getElem_cons_succ, List.setIfInBounds_toArray, List.set_cons_zero, List.set_cons_succ]
                refine wpAnyH_take (i := 12) (v := ?_) rfl (by kernel_rfl) (by kernel_rfl) (by kernel_rfl) (fun _ _ _ h => h) (Or.inl ⟨by kernel_rfl, ?hy12⟩) (by assumption) ?_
                case hy12 => (intro w hSw; (try dsimp only at hSw); have k1 := (Lib.cell_of_heap hSw.1 1).trans rfl; have k2 := (Lib.cell_of_heap hSw.1 2).trans rfl; have k3 := (Lib.cell_of_heap hSw.1 3).trans rfl; have k5 := hSw.2; go_simp; try with_reducible rfl)
                try simp only [Act.put, List.getElem_toArray, List.getElem_cons_zero, List.getElem_cons_succ, List.setIfInBounds_toArray, List.set_cons_zero, List.set_cons_succ]
                refine wpAnyH_ready (rs := [13]) (by kernel_rfl) (by simp) ?_
                refine AllReadyH.cons rfl (fun K hK => ?_) AllReadyH.nil
                go_simp
                go_wp2_with fail
                refine (smove_any (HS1.out.on hb0).se ox oy ra rn rc rl (HRD1.out.on hb0) HAP.out).mono ?_
                rintro e w6 ⟨v6, rfl, hR6⟩
                have hS6 := (HS1.out.on hb0).then hR6.kp hR6.se
                obtain ⟨a6, c6, rfl, hd6, _⟩ := hR6.rd
                have hb6 := hR6.kp.var hHeld.1 (by simpa using hgne)
                refine hK.out _ _ ⟨hb6, hR6.kp.cell hHeld.2 (by simpa using hbg)⟩ (fun _ => ?_)
                clear hK K hHeld
                refine wpAnyH_take (i := 14) (v := ?_) rfl (by kernel_rfl) (by kernel_rfl) (by kernel_rfl) (fun _ _ _ h => h) (Or.inl ⟨by kernel_rfl, ?hy14⟩) (by assumption) ?_
                case hy14 => (intro w hSw; (try dsimp only at hSw); have k1 := (Lib.cell_of_heap hSw.1 1).trans rfl; have k2 := (Lib.cell_of_heap hSw.1 2).trans rfl; have k3 := (Lib.cell_of_heap hSw.1 3).trans rfl; have k5 := hSw.2; go_simp; try with_reducible rfl)
                try simp only [Act.put, List.getElem_toArray, List.getElem_cons_zero, List.getElem_cons_succ, List.setIfInBounds_toArray, List.set_cons_zero, List.set_cons_succ]
                refine wpAnyH_done (by kernel_rfl) ?_ _
                go_wp2
                go_meet
                exact ⟨_, _, _, _, _, _, rfl, hd6, hS6, mov_len _ _ _ _, ply_mov _ _ _ _, hb6⟩
            case rest =>
              obtain ⟨l, s, X2, Y2, a3, c3, rfl, hd, hsw2, hl2, hply, hbx2⟩ := hcut
              have k0' : wc.cell? ⟨gb, 0, none⟩ = some (.int .i64 ok) := (Lib.cell_of_heap hbx2 0).trans rfl
              obtain ⟨N, hN⟩ : ∃ N, N = l.length := ⟨_, rfl⟩
              have HD := hid hd
              have HSW := hid hsw2
              have HPL := hid hply
              rw [← hN] at HD hl2 ⊢
              have HN := hid hN
              clear hd hsw2 hply hbx2 hN k0 k3 cr1 HS1 HRD1 HBX CP HAP HS
              go_wp2
              go_loopw [8, 12] (fun v i wr => ∃ k : Nat, v = .int .i64 ((l.take k).foldl ply1 P) ∧ i = .int .i64 k ∧ k ≤ N ∧ wr = wc) (fun _ i _ => N - (numOf i).toNat)
              case atStart => exact ⟨0, rfl, rfl, by omega, rfl⟩
              case round =>
                obtain ⟨k, rfl, rfl, hk, rfl⟩ := hrel
                by_cases hgo3 : k < N
                · have e5 : decide ((k : Int) < (N : Int)) = true := decide_eq_true (by omega)
                  have e6 : (k : Int) < (N : Int) := by omega
                  obtain ⟨b3, off3, z0, z1, z2, z3, rfl, _, hr3, d0, d1, d2, d3⟩ := HD.out.el4 hgo3
                  have hok := HPL.out.each k _ hr3
                  have hst := ply_step (P := P) hr3
                  generalize (l.take k).foldl ply1 P = I at hok hst ⊢
                  have HST := hid hst
                  clear hst hr3
                  by_cases hz1 : z0 = 1
                  · subst hz1
                    obtain ⟨hI, hz⟩ := hok.e rfl
                    subst hI
                    have e7 : (z1 == 0) = false := by have hz' : z1 ≠ 0 := hz; simpa using hz'
                    have HF : Hid ((l.take (k + 1)).foldl ply1 P = z1) := HST.out
                    clear hok hz HST
                    go_wp2
                    go_roundw
                    case rel => exact ⟨k + 1, by rw [HF.out], by go_num, by omega, trivial⟩
                    case measure => simp [numOf]; omega
                  · by_cases hz2 : z0 = 2
                    · subst hz2
                      obtain ⟨hI, hz⟩ := hok.l rfl
                      have hI' : I = z1 := hI
                      subst hI'
                      have e7 : (I == 0) = false := by simpa using hz
                      have e8 : (I != I) = false := by simp
                      have HF : Hid ((l.take (k + 1)).foldl ply1 P = 0) := HST.out
                      clear hok hz HST hz1 hI
                      go_wp2
                      go_roundw
                      case rel => exact ⟨k + 1, by rw [HF.out], by go_num, by omega, trivial⟩
                      case measure => simp [numOf]; omega
                    · obtain ⟨h3, hI, hmt⟩ := hok.m hz1 hz2
                      have h3' : z0 = 3 := h3
                      have hI' : I = z1 := hI
                      subst h3' hI'
                      have hbz : (bits BinOp.and IntKind.i64 ok 1 == 0) = true := by rw [← HMO.out]; exact hmt
                      have e9 : (bits BinOp.and IntKind.i64 ok 1 != 0) = false := by rw [bne, hbz]; rfl
                      have e8 : (I != I) = false := by simp
                      have HF : Hid ((l.take (k + 1)).foldl ply1 P = I) := HST.out
                      clear hok HST hz1 hz2 hI h3 hmt hbz
                      go_wp2
                      go_roundw
                      case rel => exact ⟨k + 1, by rw [HF.out], by go_num, by omega, trivial⟩
                      case measure => simp [numOf]; omega
                · have e5 : decide ((k : Int) < (N : Int)) = false := decide_eq_false (by omega)
                  have hlast := HPL.out.last
                  rw [List.take_of_length_le (by rw [← HN.out]; omega), hlast]
                  have CF2 := hid (sfocus_any HSW.out.se)
                  have e8 : (s != s) = false := by simp
                  clear hlast
                  go_wp2_with fail
                  refine CF2.out.mono ?_
                  rintro e w7 ⟨rfl, q7, rfl⟩
                  clear CF2
                  go_wp2
                  go_roundw
                  case rel => exact ⟨j + 1, s, K, X2, Y2, rfl, by go_num, by omega, by omega, HSW.out.on (below_drewN (Below.refl _ _) q7)⟩
                  case measure => simp [numOf]; omega
          · have HS := hid hsw
            clear hsw HQ4
            by_cases hjn : j < n1
            · have e2 : decide ((j : Int) < (n1 : Int)) = true := decide_eq_true (by omega)
              have e3 : decide ((j : Int) < 60) = false := decide_eq_false (by omega)
              go_wp2_with fail
              refine (sawake_any wr).mono ?_
              rintro e w5 ⟨rfl, hb5⟩
              have HB5 := hid (Below.on (Below.on HB2.out HS.out.bel) hb5)
              clear hb5
              go_wp2
              go_ret
              exact ⟨rfl, HB5.out⟩
            · have e2 : decide ((j : Int) < (n1 : Int)) = false := decide_eq_false (by omega)
              go_wp2_with fail
              refine (sawake_any wr).mono ?_
              rintro e w5 ⟨rfl, hb5⟩
              have HB5 := hid (Below.on (Below.on HB2.out HS.out.bel) hb5)
              clear hb5
              go_wp2
              go_ret
              exact ⟨rfl, HB5.out⟩
end Go.Proofs.Ytegmolmjoiklpaa.seatEnters
