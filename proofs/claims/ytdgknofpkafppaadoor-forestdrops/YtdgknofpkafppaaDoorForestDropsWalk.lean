/- ForestDrops: for every number the call returns true; nothing that was there has turned. Written by forest/mk_drops.py. -/
import Derived.Test.YtdgknofpkafppaaDoorBh
namespace Go.Proofs.YtdgknofpkafppaaDoor.forestDrops
open Go Go.RowKit

/-- A line of three. -/
def ln : Nat → Fo
  | 0 => []
  | i + 1 => if i = 0 then upd (addF (ln i) ((i + 1 : Nat) : Int)) ((i + 1 : Nat) : Int) (attS (10 + ((i + 1 : Nat) : Int))) else subFB (upd (addF (ln i) ((i + 1 : Nat) : Int)) ((i + 1 : Nat) : Int) (attS (10 + ((i + 1 : Nat) : Int)))) ((i + 1 : Nat) : Int) ((i : Nat) : Int)
/-- Committed from the last one on. -/
def cm : Nat → Fo
  | 0 => ln 3
  | i + 1 => (comB (cm i) ((3 - i : Nat) : Int)).1
theorem f_add : ∀ j < 3, addE (ln j) ((j + 1 : Nat) : Int) = 0 ∧ hasE (addF (ln j) ((j + 1 : Nat) : Int)) ((j + 1 : Nat) : Int) = 0 := by decide
theorem f_sub : ∀ j < 3, 0 < j → subEB (upd (addF (ln j) ((j + 1 : Nat) : Int)) ((j + 1 : Nat) : Int) (attS (10 + ((j + 1 : Nat) : Int)))) ((j + 1 : Nat) : Int) ((j : Nat) : Int) = 0 := by decide
theorem f_wlk : (wlk (cm 3) 41 1 0 0).length = 3 := by decide
/-- Behind both drops. -/
def dd (k : Int) : Fo := drpF (drpF (cm 3) k) k
theorem f_drp1 : drpE (cm 3) 1 = 0 ∧ (gt (drpF (cm 3) 1) 1).isSome = false ∧ drpE (drpF (cm 3) 1) 1 = 5 ∧ keys (dd 1) = [2, 3] ∧ hldL (dd 1) = [12, 13] ∧ (wlk (dd 1) 41 1 0 0).length = 0 ∧ parF (dd 1) 2 = 0 ∧ syB 40 (dd 1) 2 = false ∧ (wlk (dd 1) 41 2 0 0).length = 2 := by decide
theorem f_drp2 : drpE (cm 3) 2 = 0 ∧ (gt (drpF (cm 3) 2) 2).isSome = false ∧ drpE (drpF (cm 3) 2) 2 = 5 ∧ keys (dd 2) = [1, 3] ∧ hldL (dd 2) = [11, 13] ∧ (wlk (dd 2) 41 1 0 0).length = 1 ∧ parF (dd 2) 3 = 0 ∧ syB 40 (dd 2) 3 = false := by decide
theorem f_drp3 : drpE (cm 3) 3 = 0 ∧ (gt (drpF (cm 3) 3) 3).isSome = false ∧ drpE (drpF (cm 3) 3) 3 = 5 ∧ keys (dd 3) = [1, 2] ∧ hldL (dd 3) = [11, 12] ∧ (wlk (dd 3) 41 1 0 0).length = 2 := by decide
theorem ris2 {ys : List Int} {a b : Int} (h : Ris ys) (hm : ∀ x, x ∈ ys ↔ x ∈ [a, b]) (hab : a < b) : ys.length = 2 := by
  rw [ris_ext h (m := [a, b]) (by simp [hab]) hm]
  rfl

set_option maxRecDepth 100000 in
set_option maxHeartbeats 4000000 in
theorem core (a : Int) (w : World) (ha : -9223372036854775808 ≤ a ∧ a ≤ 9223372036854775807) (es : List Addr) (hE : Fe w es) :
    Calls Tryd.prog 6 #[.int .i64 a] w fun e w' => e = .returned (.bool true) ∧ Below w.heap.size w w' := by
  have hng := ng5 hE
  have CN := hid (pg_new (es := es) w w (Below.refl _ _) hE hng)
  have HE := hid hE
  have CP := hid (place_any a 3 ha (by omega) (by omega))
  have hp3 := plc_lt a 3 (by omega)
  have AW : Hid (∀ W, Below w.heap.size w W → Calls Tryd.prog 17 #[] W fun e w' => e = .returned (.bool true) ∧ Below W.heap.size W w') := fun W hW => fawake_any W (HE.out.on hW) (Nat.le_trans hng hW.size)
  clear hE ha
  go_enter Tryd.func6, Tryd.ntmps6
  go_wp2_with fail
  refine CN.out.mono ?_
  rintro e w2 ⟨p, rfl, hp2, -⟩
  have HP2 := hid hp2
  clear hp2 CN
  go_wp2
  go_loopw [4] (fun v wr => ∃ n : Nat, v = .int .i64 ((n + 1 : Nat) : Int) ∧ n ≤ 3 ∧ Pg es w wr p (3 * n) (ln n)) (fun v _ => 10 - (numOf v).toNat)
  case atStart => exact ⟨0, rfl, by omega, HP2.out⟩
  case round =>
    obtain ⟨n, rfl, hn, hp⟩ := hrel
    clear HP2
    by_cases hgo : n < 3
    · have e2 : decide (((n + 1 : Nat) : Int) ≤ 3) = true := decide_eq_true (by omega)
      have C1 := hid (hp.add (by omega) ((n + 1 : Nat) : Int) ⟨by omega, by omega⟩)
      rw [(f_add n hgo).1, erv0] at C1
      have e3 : IntKind.i64.wrap (10 + ((n + 1 : Nat) : Int)) = 10 + ((n + 1 : Nat) : Int) := by rw [IntKind.wrap_i64]; omega
      clear hp
      go_wp2_with fail
      refine C1.out.mono ?_
      rintro e w3 ⟨rfl, hp3'⟩
      have C2 := hid (hp3'.att (by omega) ((n + 1 : Nat) : Int) (10 + ((n + 1 : Nat) : Int)) ⟨by omega, by omega⟩ ⟨by omega, by omega⟩)
      rw [(f_add n hgo).2, erv0] at C2
      clear hp3' C1
      cases h0 : decide (((n + 1 : Nat) : Int) > 1)
      · have hn0 : n = 0 := by have := of_decide_eq_false h0; omega
        subst hn0
        go_wp2_with fail
        refine C2.out.mono ?_
        rintro e w4 ⟨rfl, hp4⟩
        have HP4 : Hid (Pg es w w4 p (3 * (0 + 1)) (ln (0 + 1))) := hp4.mono (by omega)
        clear hp4 C2
        go_wp2
        go_roundw
        case rel => exact ⟨1, by go_num, by omega, HP4.out⟩
        case measure => simp [numOf]
      · have hn0 : 0 < n := by have := of_decide_eq_true h0; omega
        have e4 : IntKind.i64.wrap (((n + 1 : Nat) : Int) - 1) = (n : Int) := by rw [IntKind.wrap_i64]; omega
        go_wp2_with fail
        refine C2.out.mono ?_
        rintro e w4 ⟨rfl, hp4⟩
        have C3 := hid (hp4.sub (by omega) ((n + 1 : Nat) : Int) (n : Int) ⟨by omega, by omega⟩ ⟨by omega, by omega⟩)
        rw [f_sub n hgo hn0, erv0] at C3
        clear hp4 C2
        go_wp2_with fail
        refine C3.out.mono ?_
        rintro e w5 ⟨rfl, hp5⟩
        have HP5 : Hid (Pg es w w5 p (3 * (n + 1)) (ln (n + 1))) := by
          rw [Hid, ln, if_neg (by omega)]
          exact hp5.mono (by omega)
        clear hp5 C3
        go_wp2
        go_roundw
        case rel => exact ⟨n + 1, by go_num, by omega, HP5.out⟩
        case measure => simp [numOf]; omega
    · have e2 : decide (((n + 1 : Nat) : Int) ≤ 3) = false := decide_eq_false (by omega)
      obtain rfl : n = 3 := by omega
      have HP := hid hp
      clear hp
      go_wp2
      simp only [show ((3 + 1 : Nat) : Int) = 4 from rfl]
      go_loopw [5] (fun v wr => ∃ n : Nat, v = .int .i64 (3 - (n : Int)) ∧ n ≤ 3 ∧ Pg es w wr p (9 + n) (cm n)) (fun v _ => (numOf v).toNat)
      case atStart => exact ⟨0, rfl, by omega, HP.out⟩
      case round =>
        obtain ⟨n, rfl, hn, hp⟩ := hrel
        clear HP
        by_cases hgo : n < 3
        · have e5 : decide (3 - (n : Int) ≥ 1) = true := decide_eq_true (by omega)
          have e6 : IntKind.i64.wrap (3 - (n : Int) - 1) = 3 - ((n + 1 : Nat) : Int) := by rw [IntKind.wrap_i64]; omega
          have C1 := hid (hp.com (by omega) (3 - (n : Int)) ⟨by omega, by omega⟩)
          have HCM : Hid (cm (n + 1) = (comB (cm n) (3 - (n : Int))).1) := by rw [Hid, cm, show ((3 - n : Nat) : Int) = 3 - (n : Int) by omega]
          clear hp
          go_wp2_with fail
          refine C1.out.mono ?_
          rintro e w3 ⟨va, vc, rfl, -, hp3'⟩
          rw [← HCM.out] at hp3'
          have HP3 := hid hp3'
          clear hp3' C1
          go_wp2
          go_roundw
          case rel => exact ⟨n + 1, by go_num, by omega, HP3.out⟩
          case measure => simp [numOf]; omega
        · have e5 : decide (3 - (n : Int) ≥ 1) = false := decide_eq_false (by omega)
          obtain rfl : n = 3 := by omega
          have HP := hid hp
          clear hp e2
          obtain ⟨k, hk⟩ : ∃ k, k = plc a 3 := ⟨_, rfl⟩
          rw [← hk] at CP hp3
          clear hk
          have C1 := hid (HP.out.wlk 1 bt1)
          rw [f_wlk] at C1
          go_wp2_with fail
          refine (CP.out wr).mono ?_
          rintro e w3 ⟨rfl, hw3⟩
          obtain rfl : wr = w3 := hw3.symm
          clear hw3 CP
          match k, hp3 with
          | 0, _ =>
            obtain ⟨a1, a2, a3, a4, a5, a6, a7, a8, a9⟩ := f_drp1
            go_wp2_with fail
            refine C1.out.mono ?_
            rintro e w4 ⟨va, vc, rfl, -, hb4⟩
            have C2 := hid ((HP.out.on hb4).drp (by omega) 1 ⟨by decide, by decide⟩)
            rw [a1, erv0] at C2
            clear hb4 C1 HP
            go_wp2_with fail
            refine C2.out.mono ?_
            rintro e w5 ⟨rfl, hp5⟩
            have C3 := hid (hp5.has 1 ⟨by decide, by decide⟩)
            rw [a2] at C3
            have HP5 := hid hp5
            clear hp5 C2
            go_wp2_with fail
            refine C3.out.mono ?_
            rintro e w6 ⟨rfl, hw6⟩
            obtain rfl : w5 = w6 := hw6.symm
            have C4 := hid (HP5.out.drp (by omega) 1 ⟨by decide, by decide⟩)
            rw [a3, erv_succ] at C4
            clear hw6 C3 HP5
            go_wp2_with fail
            refine C4.out.mono ?_
            rintro e w7 ⟨rfl, hp7⟩
            have hp7' : Pg es w w7 p (9 + 3 + 1 + 1) (dd 1) := hp7
            have C5 := hid hp7'.all
            have HP7 := hid hp7'
            clear hp7 hp7' C4
            go_wp2_with fail
            refine C5.out.mono ?_
            rintro e w8 ⟨xa, xc, ys, rfl, -, hr8, hm8, hb8⟩
            have hl8 : ys.length = 2 := ris2 hr8 (fun x => by rw [hm8, a4]) (by decide)
            have HP8 := hid (HP7.out.on hb8)
            have C6 := hid HP8.out.hld
            rw [hl8]
            clear hr8 hm8 hb8 hl8 HP7 C5
            go_wp2_with fail
            refine C6.out.mono ?_
            rintro e w9 ⟨za, zc, zs, rfl, -, hr9, hm9, hb9⟩
            have hl9 : zs.length = 2 := ris2 hr9 (a := 12) (b := 13) (fun x => by
              rw [hm9, a5]
              simp only [List.mem_cons, List.not_mem_nil, or_false]
              omega) (by decide)
            have HP9 := hid (HP8.out.on hb9)
            rw [hl9]
            clear hr9 hm9 hb9 hl9 HP8 C6
            go_upto_region 17 with fail
            have hb10 := bel_new w9 (.cells #[.int .i64 0, .int .i64 0, .int .i64 1, .int .i64 2] 50)
            have HP10 := hid (HP9.out.on hb10)
            have hk10 := bk_new w9 #[.int .i64 0, .int .i64 0, .int .i64 1, .int .i64 2] 50
            obtain ⟨q, hq⟩ : ∃ q, q = w9.heap.size := ⟨_, rfl⟩
            rw [← hq] at hk10
            simp only [← hq]
            obtain ⟨W10, hW10⟩ : ∃ W, W = w9.alloc (.cells #[.int .i64 0, .int .i64 0, .int .i64 1, .int .i64 2] 50) := ⟨_, rfl⟩
            rw [← hW10] at HP10 hk10 ⊢
            have HS : Hid (∀ W, Below W10.heap.size W10 W → Pg es w W p (9 + 3 + 1 + 1) (dd 1) ∧ W.cell? ⟨q, 0, none⟩ = some (.int .i64 0) ∧ W.cell? ⟨q, 1, none⟩ = some (.int .i64 0) ∧ W.cell? ⟨q, 2, none⟩ = some (.int .i64 1) ∧ W.cell? ⟨q, 3, none⟩ = some (.int .i64 2) ∧ q < W.heap.size) := fun W hW => ⟨HP10.out.on hW, (hk10.on hW).cell 0, (hk10.on hW).cell 1, (hk10.on hW).cell 2, (hk10.on hW).cell 3, (hk10.on hW).lt⟩
            have A6 := hid a6
            have A7 := hid a7
            have A8 := hid a8
            have A9 := hid a9
            clear hb10 hk10 hq hW10 HP10 HP9 a1 a2 a3 a4 a5 a6 a7 a8 a9
            refine wp_region_held_drew (S := RowKit.Below W10.heap.size W10) (by kernel_rfl) ?hh (fun hHeld => ?_)
            case hh => exact ((Below.refl _ _).drew)
            generalize W10.drew = W0 at hHeld ⊢
            try dsimp only at hHeld
            refine wpAnyH_take (i := 0) (v := ?_) rfl (by kernel_rfl) (by kernel_rfl) (by kernel_rfl) (fun _ _ _ h => h) (Or.inl ⟨by kernel_rfl, ?hy0⟩) (by assumption) ?_
            case hy0 => (intro wI hSw; (try dsimp only at hSw); obtain ⟨-, t1, t2, t3, t4, t5⟩ := HS.out _ hSw; go_simp; try with_reducible rfl)
            try simp only [Act.put, List.getElem_toArray, List.getElem_cons_zero, List.setIfInBounds_toArray, List.set_cons_zero, List.set_cons_succ]
            refine wpAnyH_take (i := 3) (v := ?_) rfl (by kernel_rfl) (by kernel_rfl) (by kernel_rfl) (fun _ _ _ h => h) (Or.inl ⟨by kernel_rfl, ?hy3⟩) (by assumption) ?_
            case hy3 => (intro wI hSw; (try dsimp only at hSw); obtain ⟨-, t1, t2, t3, t4, t5⟩ := HS.out _ hSw; go_simp; try with_reducible rfl)
            try simp only [Act.put, List.getElem_toArray, List.getElem_cons_zero, List.getElem_cons_succ, List.setIfInBounds_toArray, List.set_cons_zero, List.set_cons_succ]
            refine wpAnyH_take (i := 4) (v := ?_) rfl (by kernel_rfl) (by kernel_rfl) (by kernel_rfl) (fun _ _ _ h => h) (Or.inl ⟨by kernel_rfl, ?hy4⟩) (by assumption) ?_
            case hy4 => (intro wI hSw; (try dsimp only at hSw); obtain ⟨-, t1, t2, t3, t4, t5⟩ := HS.out _ hSw; go_simp; try with_reducible rfl)
            try simp only [Act.put, List.getElem_toArray, List.getElem_cons_zero, List.getElem_cons_succ, List.setIfInBounds_toArray, List.set_cons_zero, List.set_cons_succ]
            refine wpAnyH_take (i := 5) (v := ?_) rfl (by kernel_rfl) (by kernel_rfl) (by kernel_rfl) (fun _ _ _ h => h) (Or.inl ⟨by kernel_rfl, ?hy5⟩) (by assumption) ?_
            case hy5 => (intro wI hSw; (try dsimp only at hSw); obtain ⟨-, t1, t2, t3, t4, t5⟩ := HS.out _ hSw; go_simp; try with_reducible rfl)
            try simp only [Act.put, List.getElem_toArray, List.getElem_cons_zero, List.getElem_cons_succ, List.setIfInBounds_toArray, List.set_cons_zero, List.set_cons_succ]
            refine wpAnyH_ready (rs := [1]) (by kernel_rfl) (by simp) ?_
            refine AllReadyH.cons rfl (fun K hK => ?_) AllReadyH.nil
            have C := (HS.out _ hHeld).1.wlk 1 ⟨by decide, by decide⟩
            rw [A6.out] at C
            go_simp
            go_wp2_with fail
            refine C.mono ?_
            clear C
            rintro e W1 ⟨va1, vc1, rfl, -, hb⟩
            have hH2 := Below.on hHeld hb
            refine hK.out _ _ hH2 (fun _ => ?_)
            clear hK K hHeld hb
            have hHeld := hH2
            clear hH2
            try simp only [Act.put, List.getElem_toArray, List.getElem_cons_zero, List.getElem_cons_succ, List.setIfInBounds_toArray, List.set_cons_zero, List.set_cons_succ]
            refine wpAnyH_take (i := 2) (v := ?_) rfl (by kernel_rfl) (by kernel_rfl) (by kernel_rfl) (fun _ _ _ h => h) (Or.inl ⟨by kernel_rfl, ?hy2⟩) (by assumption) ?_
            case hy2 => (intro wI hSw; (try dsimp only at hSw); obtain ⟨-, t1, t2, t3, t4, t5⟩ := HS.out _ hSw; go_simp; try with_reducible rfl)
            try simp only [Act.put, List.getElem_toArray, List.getElem_cons_zero, List.getElem_cons_succ, List.setIfInBounds_toArray, List.set_cons_zero, List.set_cons_succ]
            refine wpAnyH_take (i := 6) (v := ?_) rfl (by kernel_rfl) (by kernel_rfl) (by kernel_rfl) (fun _ _ _ h => h) (Or.inl ⟨by kernel_rfl, ?hy6⟩) (by assumption) ?_
            case hy6 => (intro wI hSw; (try dsimp only at hSw); obtain ⟨-, t1, t2, t3, t4, t5⟩ := HS.out _ hSw; go_simp; try with_reducible rfl)
            try simp only [Act.put, List.getElem_toArray, List.getElem_cons_zero, List.getElem_cons_succ, List.setIfInBounds_toArray, List.set_cons_zero, List.set_cons_succ]
            refine wpAnyH_take (i := 7) (v := ?_) rfl (by kernel_rfl) (by kernel_rfl) (by kernel_rfl) (fun _ _ _ h => h) (Or.inl ⟨by kernel_rfl, ?hy7⟩) (by assumption) ?_
            case hy7 => (intro wI hSw; (try dsimp only at hSw); obtain ⟨-, t1, t2, t3, t4, t5⟩ := HS.out _ hSw; go_simp; try with_reducible rfl)
            try simp only [Act.put, List.getElem_toArray, List.getElem_cons_zero, List.getElem_cons_succ, List.setIfInBounds_toArray, List.set_cons_zero, List.set_cons_succ]
            refine wpAnyH_take (i := 8) (v := ?_) rfl (by kernel_rfl) (by kernel_rfl) (by kernel_rfl) (fun _ _ _ h => h) (Or.inl ⟨by kernel_rfl, ?hy8⟩) (by assumption) ?_
            case hy8 => (intro wI hSw; (try dsimp only at hSw); obtain ⟨-, t1, t2, t3, t4, t5⟩ := HS.out _ hSw; go_simp; try with_reducible rfl)
            try simp only [Act.put, List.getElem_toArray, List.getElem_cons_zero, List.getElem_cons_succ, List.setIfInBounds_toArray, List.set_cons_zero, List.set_cons_succ]
            refine wpAnyH_take (i := 9) (v := ?_) rfl (by kernel_rfl) (by kernel_rfl) (by kernel_rfl) (fun _ _ _ h => h) (Or.inl ⟨by kernel_rfl, ?hy9⟩) (by assumption) ?_
            case hy9 => (intro wI hSw; (try dsimp only at hSw); obtain ⟨-, t1, t2, t3, t4, t5⟩ := HS.out _ hSw; go_simp; try with_reducible rfl)
            try simp only [Act.put, List.getElem_toArray, List.getElem_cons_zero, List.getElem_cons_succ, List.setIfInBounds_toArray, List.set_cons_zero, List.set_cons_succ]
            refine wpAnyH_take (i := 10) (v := ?_) rfl (by kernel_rfl) (by kernel_rfl) (by kernel_rfl) (fun _ _ _ h => h) (Or.inl ⟨by kernel_rfl, ?hy10⟩) (by assumption) ?_
            case hy10 => (intro wI hSw; (try dsimp only at hSw); obtain ⟨-, t1, t2, t3, t4, t5⟩ := HS.out _ hSw; go_simp; try with_reducible rfl)
            try simp only [Act.put, List.getElem_toArray, List.getElem_cons_zero, List.getElem_cons_succ, List.setIfInBounds_toArray, List.set_cons_zero, List.set_cons_succ]
            refine wpAnyH_take (i := 11) (v := ?_) rfl (by kernel_rfl) (by kernel_rfl) (by kernel_rfl) (fun _ _ _ h => h) (Or.inl ⟨by kernel_rfl, ?hy11⟩) (by assumption) ?_
            case hy11 => (intro wI hSw; (try dsimp only at hSw); obtain ⟨-, t1, t2, t3, t4, t5⟩ := HS.out _ hSw; go_simp; try with_reducible rfl)
            try simp only [Act.put, List.getElem_toArray, List.getElem_cons_zero, List.getElem_cons_succ, List.setIfInBounds_toArray, List.set_cons_zero, List.set_cons_succ]
            refine wpAnyH_take (i := 12) (v := ?_) rfl (by kernel_rfl) (by kernel_rfl) (by kernel_rfl) (fun _ _ _ h => h) (Or.inl ⟨by kernel_rfl, ?hy12⟩) (by assumption) ?_
            case hy12 => (intro wI hSw; (try dsimp only at hSw); obtain ⟨-, t1, t2, t3, t4, t5⟩ := HS.out _ hSw; go_simp; try with_reducible rfl)
            try simp only [Act.put, List.getElem_toArray, List.getElem_cons_zero, List.getElem_cons_succ, List.setIfInBounds_toArray, List.set_cons_zero, List.set_cons_succ]
            refine wpAnyH_take (i := 13) (v := ?_) rfl (by kernel_rfl) (by kernel_rfl) (by kernel_rfl) (fun _ _ _ h => h) (Or.inl ⟨by kernel_rfl, ?hy13⟩) (by assumption) ?_
            case hy13 => (intro wI hSw; (try dsimp only at hSw); obtain ⟨-, t1, t2, t3, t4, t5⟩ := HS.out _ hSw; go_simp; try with_reducible rfl)
            try simp only [Act.put, List.getElem_toArray, List.getElem_cons_zero, List.getElem_cons_succ, List.setIfInBounds_toArray, List.set_cons_zero, List.set_cons_succ]
            refine wpAnyH_ready (rs := [14]) (by kernel_rfl) (by simp) ?_
            refine AllReadyH.cons rfl (fun K hK => ?_) AllReadyH.nil
            have C := (HS.out _ hHeld).1.par 2 ⟨by decide, by decide⟩
            rw [A7.out] at C
            go_simp
            go_wp2_with fail
            refine C.mono ?_
            clear C
            rintro e W14 ⟨rfl, hb⟩
            have hH2 := Below.on hHeld hb
            refine hK.out _ _ hH2 (fun _ => ?_)
            clear hK K hHeld hb
            have hHeld := hH2
            clear hH2
            try simp only [Act.put, List.getElem_toArray, List.getElem_cons_zero, List.getElem_cons_succ, List.setIfInBounds_toArray, List.set_cons_zero, List.set_cons_succ]
            refine wpAnyH_take (i := 15) (v := ?_) rfl (by kernel_rfl) (by kernel_rfl) (by kernel_rfl) (fun _ _ _ h => h) (Or.inl ⟨by kernel_rfl, ?hy15⟩) (by assumption) ?_
            case hy15 => (intro wI hSw; (try dsimp only at hSw); obtain ⟨-, t1, t2, t3, t4, t5⟩ := HS.out _ hSw; go_simp; try with_reducible rfl)
            try simp only [Act.put, List.getElem_toArray, List.getElem_cons_zero, List.getElem_cons_succ, List.setIfInBounds_toArray, List.set_cons_zero, List.set_cons_succ]
            refine wpAnyH_take (i := 16) (v := ?_) rfl (by kernel_rfl) (by kernel_rfl) (by kernel_rfl) (fun _ _ _ h => h) (Or.inl ⟨by kernel_rfl, ?hy16⟩) (by assumption) ?_
            case hy16 => (intro wI hSw; (try dsimp only at hSw); obtain ⟨-, t1, t2, t3, t4, t5⟩ := HS.out _ hSw; go_simp; try with_reducible rfl)
            try simp only [Act.put, List.getElem_toArray, List.getElem_cons_zero, List.getElem_cons_succ, List.setIfInBounds_toArray, List.set_cons_zero, List.set_cons_succ]
            refine wpAnyH_take (i := 17) (v := ?_) rfl (by kernel_rfl) (by kernel_rfl) (by kernel_rfl) (fun _ _ _ h => h) (Or.inl ⟨by kernel_rfl, ?hy17⟩) (by assumption) ?_
            case hy17 => (intro wI hSw; (try dsimp only at hSw); obtain ⟨-, t1, t2, t3, t4, t5⟩ := HS.out _ hSw; go_simp; try with_reducible rfl)
            try simp only [Act.put, List.getElem_toArray, List.getElem_cons_zero, List.getElem_cons_succ, List.setIfInBounds_toArray, List.set_cons_zero, List.set_cons_succ]
            refine wpAnyH_take (i := 18) (v := ?_) rfl (by kernel_rfl) (by kernel_rfl) (by kernel_rfl) (fun _ _ _ h => h) (Or.inl ⟨by kernel_rfl, ?hy18⟩) (by assumption) ?_
            case hy18 => (intro wI hSw; (try dsimp only at hSw); obtain ⟨-, t1, t2, t3, t4, t5⟩ := HS.out _ hSw; go_simp; try with_reducible rfl)
            try simp only [Act.put, List.getElem_toArray, List.getElem_cons_zero, List.getElem_cons_succ, List.setIfInBounds_toArray, List.set_cons_zero, List.set_cons_succ]
            refine wpAnyH_take (i := 19) (v := ?_) rfl (by kernel_rfl) (by kernel_rfl) (by kernel_rfl) (fun _ _ _ h => h) (Or.inl ⟨by kernel_rfl, ?hy19⟩) (by assumption) ?_
            case hy19 => (intro wI hSw; (try dsimp only at hSw); obtain ⟨-, t1, t2, t3, t4, t5⟩ := HS.out _ hSw; go_simp; try with_reducible rfl)
            try simp only [Act.put, List.getElem_toArray, List.getElem_cons_zero, List.getElem_cons_succ, List.setIfInBounds_toArray, List.set_cons_zero, List.set_cons_succ]
            refine wpAnyH_ready (rs := [20]) (by kernel_rfl) (by simp) ?_
            refine AllReadyH.cons rfl (fun K hK => ?_) AllReadyH.nil
            have C := (HS.out _ hHeld).1.syd 2 ⟨by decide, by decide⟩
            rw [A8.out] at C
            go_simp
            go_wp2_with fail
            refine C.mono ?_
            clear C
            rintro e W20 ⟨rfl, hb⟩
            have hH2 := Below.on hHeld hb
            refine hK.out _ _ hH2 (fun _ => ?_)
            clear hK K hHeld hb
            have hHeld := hH2
            clear hH2
            try simp only [Act.put, List.getElem_toArray, List.getElem_cons_zero, List.getElem_cons_succ, List.setIfInBounds_toArray, List.set_cons_zero, List.set_cons_succ]
            refine wpAnyH_take (i := 21) (v := ?_) rfl (by kernel_rfl) (by kernel_rfl) (by kernel_rfl) (fun _ _ _ h => h) (Or.inl ⟨by kernel_rfl, ?hy21⟩) (by assumption) ?_
            case hy21 => (intro wI hSw; (try dsimp only at hSw); obtain ⟨-, t1, t2, t3, t4, t5⟩ := HS.out _ hSw; go_simp; try with_reducible rfl)
            try simp only [Act.put, List.getElem_toArray, List.getElem_cons_zero, List.getElem_cons_succ, List.setIfInBounds_toArray, List.set_cons_zero, List.set_cons_succ]
            refine wpAnyH_take (i := 22) (v := ?_) rfl (by kernel_rfl) (by kernel_rfl) (by kernel_rfl) (fun _ _ _ h => h) (Or.inl ⟨by kernel_rfl, ?hy22⟩) (by assumption) ?_
            case hy22 => (intro wI hSw; (try dsimp only at hSw); obtain ⟨-, t1, t2, t3, t4, t5⟩ := HS.out _ hSw; go_simp; try with_reducible rfl)
            try simp only [Act.put, List.getElem_toArray, List.getElem_cons_zero, List.getElem_cons_succ, List.setIfInBounds_toArray, List.set_cons_zero, List.set_cons_succ]
            refine wpAnyH_take (i := 23) (v := ?_) rfl (by kernel_rfl) (by kernel_rfl) (by kernel_rfl) (fun _ _ _ h => h) (Or.inl ⟨by kernel_rfl, ?hy23⟩) (by assumption) ?_
            case hy23 => (intro wI hSw; (try dsimp only at hSw); obtain ⟨-, t1, t2, t3, t4, t5⟩ := HS.out _ hSw; go_simp; try with_reducible rfl)
            try simp only [Act.put, List.getElem_toArray, List.getElem_cons_zero, List.getElem_cons_succ, List.setIfInBounds_toArray, List.set_cons_zero, List.set_cons_succ]
            refine wpAnyH_take (i := 24) (v := ?_) rfl (by kernel_rfl) (by kernel_rfl) (by kernel_rfl) (fun _ _ _ h => h) (Or.inl ⟨by kernel_rfl, ?hy24⟩) (by assumption) ?_
            case hy24 => (intro wI hSw; (try dsimp only at hSw); obtain ⟨-, t1, t2, t3, t4, t5⟩ := HS.out _ hSw; go_simp; try with_reducible rfl)
            try simp only [Act.put, List.getElem_toArray, List.getElem_cons_zero, List.getElem_cons_succ, List.setIfInBounds_toArray, List.set_cons_zero, List.set_cons_succ]
            refine wpAnyH_take (i := 25) (v := ?_) rfl (by kernel_rfl) (by kernel_rfl) (by kernel_rfl) (fun _ _ _ h => h) (Or.inl ⟨by kernel_rfl, ?hy25⟩) (by assumption) ?_
            case hy25 => (intro wI hSw; (try dsimp only at hSw); obtain ⟨-, t1, t2, t3, t4, t5⟩ := HS.out _ hSw; go_simp; try with_reducible rfl)
            try simp only [Act.put, List.getElem_toArray, List.getElem_cons_zero, List.getElem_cons_succ, List.setIfInBounds_toArray, List.set_cons_zero, List.set_cons_succ]
            refine wpAnyH_take (i := 26) (v := ?_) rfl (by kernel_rfl) (by kernel_rfl) (by kernel_rfl) (fun _ _ _ h => h) (Or.inl ⟨by kernel_rfl, ?hy26⟩) (by assumption) ?_
            case hy26 => (intro wI hSw; (try dsimp only at hSw); obtain ⟨-, t1, t2, t3, t4, t5⟩ := HS.out _ hSw; go_simp; try with_reducible rfl)
            try simp only [Act.put, List.getElem_toArray, List.getElem_cons_zero, List.getElem_cons_succ, List.setIfInBounds_toArray, List.set_cons_zero, List.set_cons_succ]
            refine wpAnyH_take (i := 27) (v := ?_) rfl (by kernel_rfl) (by kernel_rfl) (by kernel_rfl) (fun _ _ _ h => h) (Or.inl ⟨by kernel_rfl, ?hy27⟩) (by assumption) ?_
            case hy27 => (intro wI hSw; (try dsimp only at hSw); obtain ⟨-, t1, t2, t3, t4, t5⟩ := HS.out _ hSw; go_simp; try with_reducible rfl)
            try simp only [Act.put, List.getElem_toArray, List.getElem_cons_zero, List.getElem_cons_succ, List.setIfInBounds_toArray, List.set_cons_zero, List.set_cons_succ]
            refine wpAnyH_take (i := 28) (v := ?_) rfl (by kernel_rfl) (by kernel_rfl) (by kernel_rfl) (fun _ _ _ h => h) (Or.inl ⟨by kernel_rfl, ?hy28⟩) (by assumption) ?_
            case hy28 => (intro wI hSw; (try dsimp only at hSw); obtain ⟨-, t1, t2, t3, t4, t5⟩ := HS.out _ hSw; go_simp; try with_reducible rfl)
            try simp only [Act.put, List.getElem_toArray, List.getElem_cons_zero, List.getElem_cons_succ, List.setIfInBounds_toArray, List.set_cons_zero, List.set_cons_succ]
            refine wpAnyH_take (i := 29) (v := ?_) rfl (by kernel_rfl) (by kernel_rfl) (by kernel_rfl) (fun _ _ _ h => h) (Or.inl ⟨by kernel_rfl, ?hy29⟩) (by assumption) ?_
            case hy29 => (intro wI hSw; (try dsimp only at hSw); obtain ⟨-, t1, t2, t3, t4, t5⟩ := HS.out _ hSw; go_simp; try with_reducible rfl)
            try simp only [Act.put, List.getElem_toArray, List.getElem_cons_zero, List.getElem_cons_succ, List.setIfInBounds_toArray, List.set_cons_zero, List.set_cons_succ]
            refine wpAnyH_ready (rs := [30]) (by kernel_rfl) (by simp) ?_
            refine AllReadyH.cons rfl (fun K hK => ?_) AllReadyH.nil
            have C := (HS.out _ hHeld).1.wlk 2 ⟨by decide, by decide⟩
            rw [A9.out] at C
            go_simp
            go_wp2_with fail
            refine C.mono ?_
            clear C
            rintro e W30 ⟨va30, vc30, rfl, -, hb⟩
            have hH2 := Below.on hHeld hb
            refine hK.out _ _ hH2 (fun _ => ?_)
            clear hK K hHeld hb
            have hHeld := hH2
            clear hH2
            try simp only [Act.put, List.getElem_toArray, List.getElem_cons_zero, List.getElem_cons_succ, List.setIfInBounds_toArray, List.set_cons_zero, List.set_cons_succ]
            refine wpAnyH_take (i := 31) (v := ?_) rfl (by kernel_rfl) (by kernel_rfl) (by kernel_rfl) (fun _ _ _ h => h) (Or.inl ⟨by kernel_rfl, ?hy31⟩) (by assumption) ?_
            case hy31 => (intro wI hSw; (try dsimp only at hSw); obtain ⟨-, t1, t2, t3, t4, t5⟩ := HS.out _ hSw; go_simp; try with_reducible rfl)
            try simp only [Act.put, List.getElem_toArray, List.getElem_cons_zero, List.getElem_cons_succ, List.setIfInBounds_toArray, List.set_cons_zero, List.set_cons_succ]
            refine wpAnyH_take (i := 32) (v := ?_) rfl (by kernel_rfl) (by kernel_rfl) (by kernel_rfl) (fun _ _ _ h => h) (Or.inl ⟨by kernel_rfl, ?hy32⟩) (by assumption) ?_
            case hy32 => (intro wI hSw; (try dsimp only at hSw); obtain ⟨-, t1, t2, t3, t4, t5⟩ := HS.out _ hSw; go_simp; try with_reducible rfl)
            try simp only [Act.put, List.getElem_toArray, List.getElem_cons_zero, List.getElem_cons_succ, List.setIfInBounds_toArray, List.set_cons_zero, List.set_cons_succ]
            refine wpAnyH_take (i := 33) (v := ?_) rfl (by kernel_rfl) (by kernel_rfl) (by kernel_rfl) (fun _ _ _ h => h) (Or.inl ⟨by kernel_rfl, ?hy33⟩) (by assumption) ?_
            case hy33 => (intro wI hSw; (try dsimp only at hSw); obtain ⟨-, t1, t2, t3, t4, t5⟩ := HS.out _ hSw; go_simp; try with_reducible rfl)
            try simp only [Act.put, List.getElem_toArray, List.getElem_cons_zero, List.getElem_cons_succ, List.setIfInBounds_toArray, List.set_cons_zero, List.set_cons_succ]
            refine wpAnyH_take (i := 34) (v := ?_) rfl (by kernel_rfl) (by kernel_rfl) (by kernel_rfl) (fun _ _ _ h => h) (Or.inl ⟨by kernel_rfl, ?hy34⟩) (by assumption) ?_
            case hy34 => (intro wI hSw; (try dsimp only at hSw); obtain ⟨-, t1, t2, t3, t4, t5⟩ := HS.out _ hSw; go_simp; try with_reducible rfl)
            try simp only [Act.put, List.getElem_toArray, List.getElem_cons_zero, List.getElem_cons_succ, List.setIfInBounds_toArray, List.set_cons_zero, List.set_cons_succ]
            refine wpAnyH_take (i := 35) (v := ?_) rfl (by kernel_rfl) (by kernel_rfl) (by kernel_rfl) (fun _ _ _ h => h) (Or.inl ⟨by kernel_rfl, ?hy35⟩) (by assumption) ?_
            case hy35 => (intro wI hSw; (try dsimp only at hSw); obtain ⟨-, t1, t2, t3, t4, t5⟩ := HS.out _ hSw; go_simp; try with_reducible rfl)
            try simp only [Act.put, List.getElem_toArray, List.getElem_cons_zero, List.getElem_cons_succ, List.setIfInBounds_toArray, List.set_cons_zero, List.set_cons_succ]
            refine wpAnyH_ready (rs := [36]) (by kernel_rfl) (by simp) ?_
            refine AllReadyH.cons rfl (fun K hK => ?_) AllReadyH.nil
            go_simp
            go_wp2_with fail
            refine (AW.out _ (Below.on (HS.out _ (Below.refl _ _)).1.bel hHeld)).mono ?_
            rintro e W36 ⟨rfl, hb⟩
            have hH2 := Below.on hHeld hb
            refine hK.out _ _ hH2 (fun _ => ?_)
            clear hK K hHeld hb
            have hHeld := hH2
            clear hH2
            try simp only [Act.put, List.getElem_toArray, List.getElem_cons_zero, List.getElem_cons_succ, List.setIfInBounds_toArray, List.set_cons_zero, List.set_cons_succ]
            refine wpAnyH_take (i := 37) (v := ?_) rfl (by kernel_rfl) (by kernel_rfl) (by kernel_rfl) (fun _ _ _ h => h) (Or.inl ⟨by kernel_rfl, ?hy37⟩) (by assumption) ?_
            case hy37 => (intro wI hSw; (try dsimp only at hSw); obtain ⟨-, t1, t2, t3, t4, t5⟩ := HS.out _ hSw; go_simp; try with_reducible rfl)
            try simp only [Act.put, List.getElem_toArray, List.getElem_cons_zero, List.getElem_cons_succ, List.setIfInBounds_toArray, List.set_cons_zero, List.set_cons_succ]
            refine wpAnyH_take (i := 38) (v := ?_) rfl (by kernel_rfl) (by kernel_rfl) (by kernel_rfl) (fun _ _ _ h => h) (Or.inl ⟨by kernel_rfl, ?hy38⟩) (by assumption) ?_
            case hy38 => (intro wI hSw; (try dsimp only at hSw); obtain ⟨-, t1, t2, t3, t4, t5⟩ := HS.out _ hSw; go_simp; try with_reducible rfl)
            try simp only [Act.put, List.getElem_toArray, List.getElem_cons_zero, List.getElem_cons_succ, List.setIfInBounds_toArray, List.set_cons_zero, List.set_cons_succ]
            refine wpAnyH_done (by kernel_rfl) ?_ _
            go_wp2
            go_ret
            exact ⟨rfl, Below.on (HS.out _ (Below.refl _ _)).1.bel hHeld⟩
          | 1, _ =>
            obtain ⟨a1, a2, a3, a4, a5, a6, a7, a8⟩ := f_drp2
            go_wp2_with fail
            refine C1.out.mono ?_
            rintro e w4 ⟨va, vc, rfl, -, hb4⟩
            have C2 := hid ((HP.out.on hb4).drp (by omega) 2 ⟨by decide, by decide⟩)
            rw [a1, erv0] at C2
            clear hb4 C1 HP
            go_wp2_with fail
            refine C2.out.mono ?_
            rintro e w5 ⟨rfl, hp5⟩
            have C3 := hid (hp5.has 2 ⟨by decide, by decide⟩)
            rw [a2] at C3
            have HP5 := hid hp5
            clear hp5 C2
            go_wp2_with fail
            refine C3.out.mono ?_
            rintro e w6 ⟨rfl, hw6⟩
            obtain rfl : w5 = w6 := hw6.symm
            have C4 := hid (HP5.out.drp (by omega) 2 ⟨by decide, by decide⟩)
            rw [a3, erv_succ] at C4
            clear hw6 C3 HP5
            go_wp2_with fail
            refine C4.out.mono ?_
            rintro e w7 ⟨rfl, hp7⟩
            have hp7' : Pg es w w7 p (9 + 3 + 1 + 1) (dd 2) := hp7
            have C5 := hid hp7'.all
            have HP7 := hid hp7'
            clear hp7 hp7' C4
            go_wp2_with fail
            refine C5.out.mono ?_
            rintro e w8 ⟨xa, xc, ys, rfl, -, hr8, hm8, hb8⟩
            have hl8 : ys.length = 2 := ris2 hr8 (fun x => by rw [hm8, a4]) (by decide)
            have HP8 := hid (HP7.out.on hb8)
            have C6 := hid HP8.out.hld
            rw [hl8]
            clear hr8 hm8 hb8 hl8 HP7 C5
            go_wp2_with fail
            refine C6.out.mono ?_
            rintro e w9 ⟨za, zc, zs, rfl, -, hr9, hm9, hb9⟩
            have hl9 : zs.length = 2 := ris2 hr9 (a := 11) (b := 13) (fun x => by
              rw [hm9, a5]
              simp only [List.mem_cons, List.not_mem_nil, or_false]
              omega) (by decide)
            have HP9 := hid (HP8.out.on hb9)
            rw [hl9]
            clear hr9 hm9 hb9 hl9 HP8 C6
            go_upto_region 17 with fail
            have hb10 := bel_new w9 (.cells #[.int .i64 0, .int .i64 0, .int .i64 1, .int .i64 2] 50)
            have HP10 := hid (HP9.out.on hb10)
            have hk10 := bk_new w9 #[.int .i64 0, .int .i64 0, .int .i64 1, .int .i64 2] 50
            obtain ⟨q, hq⟩ : ∃ q, q = w9.heap.size := ⟨_, rfl⟩
            rw [← hq] at hk10
            simp only [← hq]
            obtain ⟨W10, hW10⟩ : ∃ W, W = w9.alloc (.cells #[.int .i64 0, .int .i64 0, .int .i64 1, .int .i64 2] 50) := ⟨_, rfl⟩
            rw [← hW10] at HP10 hk10 ⊢
            have HS : Hid (∀ W, Below W10.heap.size W10 W → Pg es w W p (9 + 3 + 1 + 1) (dd 2) ∧ W.cell? ⟨q, 0, none⟩ = some (.int .i64 0) ∧ W.cell? ⟨q, 1, none⟩ = some (.int .i64 0) ∧ W.cell? ⟨q, 2, none⟩ = some (.int .i64 1) ∧ W.cell? ⟨q, 3, none⟩ = some (.int .i64 2) ∧ q < W.heap.size) := fun W hW => ⟨HP10.out.on hW, (hk10.on hW).cell 0, (hk10.on hW).cell 1, (hk10.on hW).cell 2, (hk10.on hW).cell 3, (hk10.on hW).lt⟩
            have A6 := hid a6
            have A7 := hid a7
            have A8 := hid a8
            clear hb10 hk10 hq hW10 HP10 HP9 a1 a2 a3 a4 a5 a6 a7 a8
            refine wp_region_held_drew (S := RowKit.Below W10.heap.size W10) (by kernel_rfl) ?hh (fun hHeld => ?_)
            case hh => exact ((Below.refl _ _).drew)
            generalize W10.drew = W0 at hHeld ⊢
            try dsimp only at hHeld
            refine wpAnyH_take (i := 0) (v := ?_) rfl (by kernel_rfl) (by kernel_rfl) (by kernel_rfl) (fun _ _ _ h => h) (Or.inl ⟨by kernel_rfl, ?hy0⟩) (by assumption) ?_
            case hy0 => (intro wI hSw; (try dsimp only at hSw); obtain ⟨-, t1, t2, t3, t4, t5⟩ := HS.out _ hSw; go_simp; try with_reducible rfl)
            try simp only [Act.put, List.getElem_toArray, List.getElem_cons_zero, List.setIfInBounds_toArray, List.set_cons_zero, List.set_cons_succ]
            refine wpAnyH_take (i := 3) (v := ?_) rfl (by kernel_rfl) (by kernel_rfl) (by kernel_rfl) (fun _ _ _ h => h) (Or.inl ⟨by kernel_rfl, ?hy3⟩) (by assumption) ?_
            case hy3 => (intro wI hSw; (try dsimp only at hSw); obtain ⟨-, t1, t2, t3, t4, t5⟩ := HS.out _ hSw; go_simp; try with_reducible rfl)
            try simp only [Act.put, List.getElem_toArray, List.getElem_cons_zero, List.getElem_cons_succ, List.setIfInBounds_toArray, List.set_cons_zero, List.set_cons_succ]
            refine wpAnyH_take (i := 4) (v := ?_) rfl (by kernel_rfl) (by kernel_rfl) (by kernel_rfl) (fun _ _ _ h => h) (Or.inl ⟨by kernel_rfl, ?hy4⟩) (by assumption) ?_
            case hy4 => (intro wI hSw; (try dsimp only at hSw); obtain ⟨-, t1, t2, t3, t4, t5⟩ := HS.out _ hSw; go_simp; try with_reducible rfl)
            try simp only [Act.put, List.getElem_toArray, List.getElem_cons_zero, List.getElem_cons_succ, List.setIfInBounds_toArray, List.set_cons_zero, List.set_cons_succ]
            refine wpAnyH_take (i := 5) (v := ?_) rfl (by kernel_rfl) (by kernel_rfl) (by kernel_rfl) (fun _ _ _ h => h) (Or.inl ⟨by kernel_rfl, ?hy5⟩) (by assumption) ?_
            case hy5 => (intro wI hSw; (try dsimp only at hSw); obtain ⟨-, t1, t2, t3, t4, t5⟩ := HS.out _ hSw; go_simp; try with_reducible rfl)
            try simp only [Act.put, List.getElem_toArray, List.getElem_cons_zero, List.getElem_cons_succ, List.setIfInBounds_toArray, List.set_cons_zero, List.set_cons_succ]
            refine wpAnyH_ready (rs := [1]) (by kernel_rfl) (by simp) ?_
            refine AllReadyH.cons rfl (fun K hK => ?_) AllReadyH.nil
            have C := (HS.out _ hHeld).1.wlk 1 ⟨by decide, by decide⟩
            rw [A6.out] at C
            go_simp
            go_wp2_with fail
            refine C.mono ?_
            clear C
            rintro e W1 ⟨va1, vc1, rfl, -, hb⟩
            have hH2 := Below.on hHeld hb
            refine hK.out _ _ hH2 (fun _ => ?_)
            clear hK K hHeld hb
            have hHeld := hH2
            clear hH2
            try simp only [Act.put, List.getElem_toArray, List.getElem_cons_zero, List.getElem_cons_succ, List.setIfInBounds_toArray, List.set_cons_zero, List.set_cons_succ]
            refine wpAnyH_take (i := 2) (v := ?_) rfl (by kernel_rfl) (by kernel_rfl) (by kernel_rfl) (fun _ _ _ h => h) (Or.inl ⟨by kernel_rfl, ?hy2⟩) (by assumption) ?_
            case hy2 => (intro wI hSw; (try dsimp only at hSw); obtain ⟨-, t1, t2, t3, t4, t5⟩ := HS.out _ hSw; go_simp; try with_reducible rfl)
            try simp only [Act.put, List.getElem_toArray, List.getElem_cons_zero, List.getElem_cons_succ, List.setIfInBounds_toArray, List.set_cons_zero, List.set_cons_succ]
            refine wpAnyH_take (i := 6) (v := ?_) rfl (by kernel_rfl) (by kernel_rfl) (by kernel_rfl) (fun _ _ _ h => h) (Or.inl ⟨by kernel_rfl, ?hy6⟩) (by assumption) ?_
            case hy6 => (intro wI hSw; (try dsimp only at hSw); obtain ⟨-, t1, t2, t3, t4, t5⟩ := HS.out _ hSw; go_simp; try with_reducible rfl)
            try simp only [Act.put, List.getElem_toArray, List.getElem_cons_zero, List.getElem_cons_succ, List.setIfInBounds_toArray, List.set_cons_zero, List.set_cons_succ]
            refine wpAnyH_take (i := 7) (v := ?_) rfl (by kernel_rfl) (by kernel_rfl) (by kernel_rfl) (fun _ _ _ h => h) (Or.inl ⟨by kernel_rfl, ?hy7⟩) (by assumption) ?_
            case hy7 => (intro wI hSw; (try dsimp only at hSw); obtain ⟨-, t1, t2, t3, t4, t5⟩ := HS.out _ hSw; go_simp; try with_reducible rfl)
            try simp only [Act.put, List.getElem_toArray, List.getElem_cons_zero, List.getElem_cons_succ, List.setIfInBounds_toArray, List.set_cons_zero, List.set_cons_succ]
            refine wpAnyH_take (i := 8) (v := ?_) rfl (by kernel_rfl) (by kernel_rfl) (by kernel_rfl) (fun _ _ _ h => h) (Or.inl ⟨by kernel_rfl, ?hy8⟩) (by assumption) ?_
            case hy8 => (intro wI hSw; (try dsimp only at hSw); obtain ⟨-, t1, t2, t3, t4, t5⟩ := HS.out _ hSw; go_simp; try with_reducible rfl)
            try simp only [Act.put, List.getElem_toArray, List.getElem_cons_zero, List.getElem_cons_succ, List.setIfInBounds_toArray, List.set_cons_zero, List.set_cons_succ]
            refine wpAnyH_take (i := 9) (v := ?_) rfl (by kernel_rfl) (by kernel_rfl) (by kernel_rfl) (fun _ _ _ h => h) (Or.inl ⟨by kernel_rfl, ?hy9⟩) (by assumption) ?_
            case hy9 => (intro wI hSw; (try dsimp only at hSw); obtain ⟨-, t1, t2, t3, t4, t5⟩ := HS.out _ hSw; go_simp; try with_reducible rfl)
            try simp only [Act.put, List.getElem_toArray, List.getElem_cons_zero, List.getElem_cons_succ, List.setIfInBounds_toArray, List.set_cons_zero, List.set_cons_succ]
            refine wpAnyH_take (i := 10) (v := ?_) rfl (by kernel_rfl) (by kernel_rfl) (by kernel_rfl) (fun _ _ _ h => h) (Or.inl ⟨by kernel_rfl, ?hy10⟩) (by assumption) ?_
            case hy10 => (intro wI hSw; (try dsimp only at hSw); obtain ⟨-, t1, t2, t3, t4, t5⟩ := HS.out _ hSw; go_simp; try with_reducible rfl)
            try simp only [Act.put, List.getElem_toArray, List.getElem_cons_zero, List.getElem_cons_succ, List.setIfInBounds_toArray, List.set_cons_zero, List.set_cons_succ]
            refine wpAnyH_take (i := 11) (v := ?_) rfl (by kernel_rfl) (by kernel_rfl) (by kernel_rfl) (fun _ _ _ h => h) (Or.inl ⟨by kernel_rfl, ?hy11⟩) (by assumption) ?_
            case hy11 => (intro wI hSw; (try dsimp only at hSw); obtain ⟨-, t1, t2, t3, t4, t5⟩ := HS.out _ hSw; go_simp; try with_reducible rfl)
            try simp only [Act.put, List.getElem_toArray, List.getElem_cons_zero, List.getElem_cons_succ, List.setIfInBounds_toArray, List.set_cons_zero, List.set_cons_succ]
            refine wpAnyH_take (i := 12) (v := ?_) rfl (by kernel_rfl) (by kernel_rfl) (by kernel_rfl) (fun _ _ _ h => h) (Or.inl ⟨by kernel_rfl, ?hy12⟩) (by assumption) ?_
            case hy12 => (intro wI hSw; (try dsimp only at hSw); obtain ⟨-, t1, t2, t3, t4, t5⟩ := HS.out _ hSw; go_simp; try with_reducible rfl)
            try simp only [Act.put, List.getElem_toArray, List.getElem_cons_zero, List.getElem_cons_succ, List.setIfInBounds_toArray, List.set_cons_zero, List.set_cons_succ]
            refine wpAnyH_take (i := 13) (v := ?_) rfl (by kernel_rfl) (by kernel_rfl) (by kernel_rfl) (fun _ _ _ h => h) (Or.inl ⟨by kernel_rfl, ?hy13⟩) (by assumption) ?_
            case hy13 => (intro wI hSw; (try dsimp only at hSw); obtain ⟨-, t1, t2, t3, t4, t5⟩ := HS.out _ hSw; go_simp; try with_reducible rfl)
            try simp only [Act.put, List.getElem_toArray, List.getElem_cons_zero, List.getElem_cons_succ, List.setIfInBounds_toArray, List.set_cons_zero, List.set_cons_succ]
            refine wpAnyH_ready (rs := [14]) (by kernel_rfl) (by simp) ?_
            refine AllReadyH.cons rfl (fun K hK => ?_) AllReadyH.nil
            have C := (HS.out _ hHeld).1.par 3 ⟨by decide, by decide⟩
            rw [A7.out] at C
            go_simp
            go_wp2_with fail
            refine C.mono ?_
            clear C
            rintro e W14 ⟨rfl, hb⟩
            have hH2 := Below.on hHeld hb
            refine hK.out _ _ hH2 (fun _ => ?_)
            clear hK K hHeld hb
            have hHeld := hH2
            clear hH2
            try simp only [Act.put, List.getElem_toArray, List.getElem_cons_zero, List.getElem_cons_succ, List.setIfInBounds_toArray, List.set_cons_zero, List.set_cons_succ]
            refine wpAnyH_take (i := 15) (v := ?_) rfl (by kernel_rfl) (by kernel_rfl) (by kernel_rfl) (fun _ _ _ h => h) (Or.inl ⟨by kernel_rfl, ?hy15⟩) (by assumption) ?_
            case hy15 => (intro wI hSw; (try dsimp only at hSw); obtain ⟨-, t1, t2, t3, t4, t5⟩ := HS.out _ hSw; go_simp; try with_reducible rfl)
            try simp only [Act.put, List.getElem_toArray, List.getElem_cons_zero, List.getElem_cons_succ, List.setIfInBounds_toArray, List.set_cons_zero, List.set_cons_succ]
            refine wpAnyH_take (i := 16) (v := ?_) rfl (by kernel_rfl) (by kernel_rfl) (by kernel_rfl) (fun _ _ _ h => h) (Or.inl ⟨by kernel_rfl, ?hy16⟩) (by assumption) ?_
            case hy16 => (intro wI hSw; (try dsimp only at hSw); obtain ⟨-, t1, t2, t3, t4, t5⟩ := HS.out _ hSw; go_simp; try with_reducible rfl)
            try simp only [Act.put, List.getElem_toArray, List.getElem_cons_zero, List.getElem_cons_succ, List.setIfInBounds_toArray, List.set_cons_zero, List.set_cons_succ]
            refine wpAnyH_take (i := 17) (v := ?_) rfl (by kernel_rfl) (by kernel_rfl) (by kernel_rfl) (fun _ _ _ h => h) (Or.inl ⟨by kernel_rfl, ?hy17⟩) (by assumption) ?_
            case hy17 => (intro wI hSw; (try dsimp only at hSw); obtain ⟨-, t1, t2, t3, t4, t5⟩ := HS.out _ hSw; go_simp; try with_reducible rfl)
            try simp only [Act.put, List.getElem_toArray, List.getElem_cons_zero, List.getElem_cons_succ, List.setIfInBounds_toArray, List.set_cons_zero, List.set_cons_succ]
            refine wpAnyH_take (i := 18) (v := ?_) rfl (by kernel_rfl) (by kernel_rfl) (by kernel_rfl) (fun _ _ _ h => h) (Or.inl ⟨by kernel_rfl, ?hy18⟩) (by assumption) ?_
            case hy18 => (intro wI hSw; (try dsimp only at hSw); obtain ⟨-, t1, t2, t3, t4, t5⟩ := HS.out _ hSw; go_simp; try with_reducible rfl)
            try simp only [Act.put, List.getElem_toArray, List.getElem_cons_zero, List.getElem_cons_succ, List.setIfInBounds_toArray, List.set_cons_zero, List.set_cons_succ]
            refine wpAnyH_take (i := 19) (v := ?_) rfl (by kernel_rfl) (by kernel_rfl) (by kernel_rfl) (fun _ _ _ h => h) (Or.inl ⟨by kernel_rfl, ?hy19⟩) (by assumption) ?_
            case hy19 => (intro wI hSw; (try dsimp only at hSw); obtain ⟨-, t1, t2, t3, t4, t5⟩ := HS.out _ hSw; go_simp; try with_reducible rfl)
            try simp only [Act.put, List.getElem_toArray, List.getElem_cons_zero, List.getElem_cons_succ, List.setIfInBounds_toArray, List.set_cons_zero, List.set_cons_succ]
            refine wpAnyH_ready (rs := [20]) (by kernel_rfl) (by simp) ?_
            refine AllReadyH.cons rfl (fun K hK => ?_) AllReadyH.nil
            have C := (HS.out _ hHeld).1.syd 3 ⟨by decide, by decide⟩
            rw [A8.out] at C
            go_simp
            go_wp2_with fail
            refine C.mono ?_
            clear C
            rintro e W20 ⟨rfl, hb⟩
            have hH2 := Below.on hHeld hb
            refine hK.out _ _ hH2 (fun _ => ?_)
            clear hK K hHeld hb
            have hHeld := hH2
            clear hH2
            try simp only [Act.put, List.getElem_toArray, List.getElem_cons_zero, List.getElem_cons_succ, List.setIfInBounds_toArray, List.set_cons_zero, List.set_cons_succ]
            refine wpAnyH_take (i := 21) (v := ?_) rfl (by kernel_rfl) (by kernel_rfl) (by kernel_rfl) (fun _ _ _ h => h) (Or.inl ⟨by kernel_rfl, ?hy21⟩) (by assumption) ?_
            case hy21 => (intro wI hSw; (try dsimp only at hSw); obtain ⟨-, t1, t2, t3, t4, t5⟩ := HS.out _ hSw; go_simp; try with_reducible rfl)
            try simp only [Act.put, List.getElem_toArray, List.getElem_cons_zero, List.getElem_cons_succ, List.setIfInBounds_toArray, List.set_cons_zero, List.set_cons_succ]
            refine wpAnyH_take (i := 22) (v := ?_) rfl (by kernel_rfl) (by kernel_rfl) (by kernel_rfl) (fun _ _ _ h => h) (Or.inl ⟨by kernel_rfl, ?hy22⟩) (by assumption) ?_
            case hy22 => (intro wI hSw; (try dsimp only at hSw); obtain ⟨-, t1, t2, t3, t4, t5⟩ := HS.out _ hSw; go_simp; try with_reducible rfl)
            try simp only [Act.put, List.getElem_toArray, List.getElem_cons_zero, List.getElem_cons_succ, List.setIfInBounds_toArray, List.set_cons_zero, List.set_cons_succ]
            refine wpAnyH_take (i := 23) (v := ?_) rfl (by kernel_rfl) (by kernel_rfl) (by kernel_rfl) (fun _ _ _ h => h) (Or.inl ⟨by kernel_rfl, ?hy23⟩) (by assumption) ?_
            case hy23 => (intro wI hSw; (try dsimp only at hSw); obtain ⟨-, t1, t2, t3, t4, t5⟩ := HS.out _ hSw; go_simp; try with_reducible rfl)
            try simp only [Act.put, List.getElem_toArray, List.getElem_cons_zero, List.getElem_cons_succ, List.setIfInBounds_toArray, List.set_cons_zero, List.set_cons_succ]
            refine wpAnyH_take (i := 24) (v := ?_) rfl (by kernel_rfl) (by kernel_rfl) (by kernel_rfl) (fun _ _ _ h => h) (Or.inl ⟨by kernel_rfl, ?hy24⟩) (by assumption) ?_
            case hy24 => (intro wI hSw; (try dsimp only at hSw); obtain ⟨-, t1, t2, t3, t4, t5⟩ := HS.out _ hSw; go_simp; try with_reducible rfl)
            try simp only [Act.put, List.getElem_toArray, List.getElem_cons_zero, List.getElem_cons_succ, List.setIfInBounds_toArray, List.set_cons_zero, List.set_cons_succ]
            refine wpAnyH_take (i := 25) (v := ?_) rfl (by kernel_rfl) (by kernel_rfl) (by kernel_rfl) (fun _ _ _ h => h) (Or.inl ⟨by kernel_rfl, ?hy25⟩) (by assumption) ?_
            case hy25 => (intro wI hSw; (try dsimp only at hSw); obtain ⟨-, t1, t2, t3, t4, t5⟩ := HS.out _ hSw; go_simp; try with_reducible rfl)
            try simp only [Act.put, List.getElem_toArray, List.getElem_cons_zero, List.getElem_cons_succ, List.setIfInBounds_toArray, List.set_cons_zero, List.set_cons_succ]
            refine wpAnyH_take (i := 26) (v := ?_) rfl (by kernel_rfl) (by kernel_rfl) (by kernel_rfl) (fun _ _ _ h => h) (Or.inl ⟨by kernel_rfl, ?hy26⟩) (by assumption) ?_
            case hy26 => (intro wI hSw; (try dsimp only at hSw); obtain ⟨-, t1, t2, t3, t4, t5⟩ := HS.out _ hSw; go_simp; try with_reducible rfl)
            try simp only [Act.put, List.getElem_toArray, List.getElem_cons_zero, List.getElem_cons_succ, List.setIfInBounds_toArray, List.set_cons_zero, List.set_cons_succ]
            refine wpAnyH_take (i := 27) (v := ?_) rfl (by kernel_rfl) (by kernel_rfl) (by kernel_rfl) (fun _ _ _ h => h) (Or.inl ⟨by kernel_rfl, ?hy27⟩) (by assumption) ?_
            case hy27 => (intro wI hSw; (try dsimp only at hSw); obtain ⟨-, t1, t2, t3, t4, t5⟩ := HS.out _ hSw; go_simp; try with_reducible rfl)
            try simp only [Act.put, List.getElem_toArray, List.getElem_cons_zero, List.getElem_cons_succ, List.setIfInBounds_toArray, List.set_cons_zero, List.set_cons_succ]
            refine wpAnyH_take (i := 28) (v := ?_) rfl (by kernel_rfl) (by kernel_rfl) (by kernel_rfl) (fun _ _ _ h => h) (Or.inl ⟨by kernel_rfl, ?hy28⟩) (by assumption) ?_
            case hy28 => (intro wI hSw; (try dsimp only at hSw); obtain ⟨-, t1, t2, t3, t4, t5⟩ := HS.out _ hSw; go_simp; try with_reducible rfl)
            try simp only [Act.put, List.getElem_toArray, List.getElem_cons_zero, List.getElem_cons_succ, List.setIfInBounds_toArray, List.set_cons_zero, List.set_cons_succ]
            refine wpAnyH_take (i := 29) (v := undef) rfl (by kernel_rfl) (by kernel_rfl) (by kernel_rfl) (fun _ _ _ h => h) (Or.inr ⟨by kernel_rfl, rfl⟩) (by assumption) ?_
            try simp only [Act.put, List.getElem_toArray, List.getElem_cons_zero, List.getElem_cons_succ, List.setIfInBounds_toArray, List.set_cons_zero, List.set_cons_succ]
            refine wpAnyH_take (i := 30) (v := undef) rfl (by kernel_rfl) (by kernel_rfl) (by kernel_rfl) (fun _ _ _ h => h) (Or.inr ⟨by kernel_rfl, rfl⟩) (by assumption) ?_
            try simp only [Act.put, List.getElem_toArray, List.getElem_cons_zero, List.getElem_cons_succ, List.setIfInBounds_toArray, List.set_cons_zero, List.set_cons_succ]
            refine wpAnyH_take (i := 31) (v := undef) rfl (by kernel_rfl) (by kernel_rfl) (by kernel_rfl) (fun _ _ _ h => h) (Or.inr ⟨by kernel_rfl, rfl⟩) (by assumption) ?_
            try simp only [Act.put, List.getElem_toArray, List.getElem_cons_zero, List.getElem_cons_succ, List.setIfInBounds_toArray, List.set_cons_zero, List.set_cons_succ]
            refine wpAnyH_take (i := 32) (v := undef) rfl (by kernel_rfl) (by kernel_rfl) (by kernel_rfl) (fun _ _ _ h => h) (Or.inr ⟨by kernel_rfl, rfl⟩) (by assumption) ?_
            try simp only [Act.put, List.getElem_toArray, List.getElem_cons_zero, List.getElem_cons_succ, List.setIfInBounds_toArray, List.set_cons_zero, List.set_cons_succ]
            refine wpAnyH_take (i := 33) (v := ?_) rfl (by kernel_rfl) (by kernel_rfl) (by kernel_rfl) (fun _ _ _ h => h) (Or.inl ⟨by kernel_rfl, ?hy33⟩) (by assumption) ?_
            case hy33 => (intro wI hSw; (try dsimp only at hSw); obtain ⟨-, t1, t2, t3, t4, t5⟩ := HS.out _ hSw; go_simp; try with_reducible rfl)
            try simp only [Act.put, List.getElem_toArray, List.getElem_cons_zero, List.getElem_cons_succ, List.setIfInBounds_toArray, List.set_cons_zero, List.set_cons_succ]
            refine wpAnyH_take (i := 34) (v := ?_) rfl (by kernel_rfl) (by kernel_rfl) (by kernel_rfl) (fun _ _ _ h => h) (Or.inl ⟨by kernel_rfl, ?hy34⟩) (by assumption) ?_
            case hy34 => (intro wI hSw; (try dsimp only at hSw); obtain ⟨-, t1, t2, t3, t4, t5⟩ := HS.out _ hSw; go_simp; try with_reducible rfl)
            try simp only [Act.put, List.getElem_toArray, List.getElem_cons_zero, List.getElem_cons_succ, List.setIfInBounds_toArray, List.set_cons_zero, List.set_cons_succ]
            refine wpAnyH_take (i := 35) (v := ?_) rfl (by kernel_rfl) (by kernel_rfl) (by kernel_rfl) (fun _ _ _ h => h) (Or.inl ⟨by kernel_rfl, ?hy35⟩) (by assumption) ?_
            case hy35 => (intro wI hSw; (try dsimp only at hSw); obtain ⟨-, t1, t2, t3, t4, t5⟩ := HS.out _ hSw; go_simp; try with_reducible rfl)
            try simp only [Act.put, List.getElem_toArray, List.getElem_cons_zero, List.getElem_cons_succ, List.setIfInBounds_toArray, List.set_cons_zero, List.set_cons_succ]
            refine wpAnyH_ready (rs := [36]) (by kernel_rfl) (by simp) ?_
            refine AllReadyH.cons rfl (fun K hK => ?_) AllReadyH.nil
            go_simp
            go_wp2_with fail
            refine (AW.out _ (Below.on (HS.out _ (Below.refl _ _)).1.bel hHeld)).mono ?_
            rintro e W36 ⟨rfl, hb⟩
            have hH2 := Below.on hHeld hb
            refine hK.out _ _ hH2 (fun _ => ?_)
            clear hK K hHeld hb
            have hHeld := hH2
            clear hH2
            try simp only [Act.put, List.getElem_toArray, List.getElem_cons_zero, List.getElem_cons_succ, List.setIfInBounds_toArray, List.set_cons_zero, List.set_cons_succ]
            refine wpAnyH_take (i := 37) (v := ?_) rfl (by kernel_rfl) (by kernel_rfl) (by kernel_rfl) (fun _ _ _ h => h) (Or.inl ⟨by kernel_rfl, ?hy37⟩) (by assumption) ?_
            case hy37 => (intro wI hSw; (try dsimp only at hSw); obtain ⟨-, t1, t2, t3, t4, t5⟩ := HS.out _ hSw; go_simp; try with_reducible rfl)
            try simp only [Act.put, List.getElem_toArray, List.getElem_cons_zero, List.getElem_cons_succ, List.setIfInBounds_toArray, List.set_cons_zero, List.set_cons_succ]
            refine wpAnyH_take (i := 38) (v := ?_) rfl (by kernel_rfl) (by kernel_rfl) (by kernel_rfl) (fun _ _ _ h => h) (Or.inl ⟨by kernel_rfl, ?hy38⟩) (by assumption) ?_
            case hy38 => (intro wI hSw; (try dsimp only at hSw); obtain ⟨-, t1, t2, t3, t4, t5⟩ := HS.out _ hSw; go_simp; try with_reducible rfl)
            try simp only [Act.put, List.getElem_toArray, List.getElem_cons_zero, List.getElem_cons_succ, List.setIfInBounds_toArray, List.set_cons_zero, List.set_cons_succ]
            refine wpAnyH_done (by kernel_rfl) ?_ _
            go_wp2
            go_ret
            exact ⟨rfl, Below.on (HS.out _ (Below.refl _ _)).1.bel hHeld⟩
          | 2, _ =>
            obtain ⟨a1, a2, a3, a4, a5, a6⟩ := f_drp3
            go_wp2_with fail
            refine C1.out.mono ?_
            rintro e w4 ⟨va, vc, rfl, -, hb4⟩
            have C2 := hid ((HP.out.on hb4).drp (by omega) 3 ⟨by decide, by decide⟩)
            rw [a1, erv0] at C2
            clear hb4 C1 HP
            go_wp2_with fail
            refine C2.out.mono ?_
            rintro e w5 ⟨rfl, hp5⟩
            have C3 := hid (hp5.has 3 ⟨by decide, by decide⟩)
            rw [a2] at C3
            have HP5 := hid hp5
            clear hp5 C2
            go_wp2_with fail
            refine C3.out.mono ?_
            rintro e w6 ⟨rfl, hw6⟩
            obtain rfl : w5 = w6 := hw6.symm
            have C4 := hid (HP5.out.drp (by omega) 3 ⟨by decide, by decide⟩)
            rw [a3, erv_succ] at C4
            clear hw6 C3 HP5
            go_wp2_with fail
            refine C4.out.mono ?_
            rintro e w7 ⟨rfl, hp7⟩
            have hp7' : Pg es w w7 p (9 + 3 + 1 + 1) (dd 3) := hp7
            have C5 := hid hp7'.all
            have HP7 := hid hp7'
            clear hp7 hp7' C4
            go_wp2_with fail
            refine C5.out.mono ?_
            rintro e w8 ⟨xa, xc, ys, rfl, -, hr8, hm8, hb8⟩
            have hl8 : ys.length = 2 := ris2 hr8 (fun x => by rw [hm8, a4]) (by decide)
            have HP8 := hid (HP7.out.on hb8)
            have C6 := hid HP8.out.hld
            rw [hl8]
            clear hr8 hm8 hb8 hl8 HP7 C5
            go_wp2_with fail
            refine C6.out.mono ?_
            rintro e w9 ⟨za, zc, zs, rfl, -, hr9, hm9, hb9⟩
            have hl9 : zs.length = 2 := ris2 hr9 (a := 11) (b := 12) (fun x => by
              rw [hm9, a5]
              simp only [List.mem_cons, List.not_mem_nil, or_false]
              omega) (by decide)
            have HP9 := hid (HP8.out.on hb9)
            rw [hl9]
            clear hr9 hm9 hb9 hl9 HP8 C6
            go_upto_region 17 with fail
            have hb10 := bel_new w9 (.cells #[.int .i64 0, .int .i64 0, .int .i64 1, .int .i64 2] 50)
            have HP10 := hid (HP9.out.on hb10)
            have hk10 := bk_new w9 #[.int .i64 0, .int .i64 0, .int .i64 1, .int .i64 2] 50
            obtain ⟨q, hq⟩ : ∃ q, q = w9.heap.size := ⟨_, rfl⟩
            rw [← hq] at hk10
            simp only [← hq]
            obtain ⟨W10, hW10⟩ : ∃ W, W = w9.alloc (.cells #[.int .i64 0, .int .i64 0, .int .i64 1, .int .i64 2] 50) := ⟨_, rfl⟩
            rw [← hW10] at HP10 hk10 ⊢
            have HS : Hid (∀ W, Below W10.heap.size W10 W → Pg es w W p (9 + 3 + 1 + 1) (dd 3) ∧ W.cell? ⟨q, 0, none⟩ = some (.int .i64 0) ∧ W.cell? ⟨q, 1, none⟩ = some (.int .i64 0) ∧ W.cell? ⟨q, 2, none⟩ = some (.int .i64 1) ∧ W.cell? ⟨q, 3, none⟩ = some (.int .i64 2) ∧ q < W.heap.size) := fun W hW => ⟨HP10.out.on hW, (hk10.on hW).cell 0, (hk10.on hW).cell 1, (hk10.on hW).cell 2, (hk10.on hW).cell 3, (hk10.on hW).lt⟩
            have A6 := hid a6
            have A7 : Hid True := trivial
            clear hb10 hk10 hq hW10 HP10 HP9 a1 a2 a3 a4 a5 a6
            refine wp_region_held_drew (S := RowKit.Below W10.heap.size W10) (by kernel_rfl) ?hh (fun hHeld => ?_)
            case hh => exact ((Below.refl _ _).drew)
            generalize W10.drew = W0 at hHeld ⊢
            try dsimp only at hHeld
            refine wpAnyH_take (i := 0) (v := ?_) rfl (by kernel_rfl) (by kernel_rfl) (by kernel_rfl) (fun _ _ _ h => h) (Or.inl ⟨by kernel_rfl, ?hy0⟩) (by assumption) ?_
            case hy0 => (intro wI hSw; (try dsimp only at hSw); obtain ⟨-, t1, t2, t3, t4, t5⟩ := HS.out _ hSw; go_simp; try with_reducible rfl)
            try simp only [Act.put, List.getElem_toArray, List.getElem_cons_zero, List.setIfInBounds_toArray, List.set_cons_zero, List.set_cons_succ]
            refine wpAnyH_take (i := 3) (v := ?_) rfl (by kernel_rfl) (by kernel_rfl) (by kernel_rfl) (fun _ _ _ h => h) (Or.inl ⟨by kernel_rfl, ?hy3⟩) (by assumption) ?_
            case hy3 => (intro wI hSw; (try dsimp only at hSw); obtain ⟨-, t1, t2, t3, t4, t5⟩ := HS.out _ hSw; go_simp; try with_reducible rfl)
            try simp only [Act.put, List.getElem_toArray, List.getElem_cons_zero, List.getElem_cons_succ, List.setIfInBounds_toArray, List.set_cons_zero, List.set_cons_succ]
            refine wpAnyH_take (i := 4) (v := ?_) rfl (by kernel_rfl) (by kernel_rfl) (by kernel_rfl) (fun _ _ _ h => h) (Or.inl ⟨by kernel_rfl, ?hy4⟩) (by assumption) ?_
            case hy4 => (intro wI hSw; (try dsimp only at hSw); obtain ⟨-, t1, t2, t3, t4, t5⟩ := HS.out _ hSw; go_simp; try with_reducible rfl)
            try simp only [Act.put, List.getElem_toArray, List.getElem_cons_zero, List.getElem_cons_succ, List.setIfInBounds_toArray, List.set_cons_zero, List.set_cons_succ]
            refine wpAnyH_take (i := 5) (v := ?_) rfl (by kernel_rfl) (by kernel_rfl) (by kernel_rfl) (fun _ _ _ h => h) (Or.inl ⟨by kernel_rfl, ?hy5⟩) (by assumption) ?_
            case hy5 => (intro wI hSw; (try dsimp only at hSw); obtain ⟨-, t1, t2, t3, t4, t5⟩ := HS.out _ hSw; go_simp; try with_reducible rfl)
            try simp only [Act.put, List.getElem_toArray, List.getElem_cons_zero, List.getElem_cons_succ, List.setIfInBounds_toArray, List.set_cons_zero, List.set_cons_succ]
            refine wpAnyH_ready (rs := [1]) (by kernel_rfl) (by simp) ?_
            refine AllReadyH.cons rfl (fun K hK => ?_) AllReadyH.nil
            have C := (HS.out _ hHeld).1.wlk 1 ⟨by decide, by decide⟩
            rw [A6.out] at C
            go_simp
            go_wp2_with fail
            refine C.mono ?_
            clear C
            rintro e W1 ⟨va1, vc1, rfl, -, hb⟩
            have hH2 := Below.on hHeld hb
            refine hK.out _ _ hH2 (fun _ => ?_)
            clear hK K hHeld hb
            have hHeld := hH2
            clear hH2
            try simp only [Act.put, List.getElem_toArray, List.getElem_cons_zero, List.getElem_cons_succ, List.setIfInBounds_toArray, List.set_cons_zero, List.set_cons_succ]
            refine wpAnyH_take (i := 2) (v := ?_) rfl (by kernel_rfl) (by kernel_rfl) (by kernel_rfl) (fun _ _ _ h => h) (Or.inl ⟨by kernel_rfl, ?hy2⟩) (by assumption) ?_
            case hy2 => (intro wI hSw; (try dsimp only at hSw); obtain ⟨-, t1, t2, t3, t4, t5⟩ := HS.out _ hSw; go_simp; try with_reducible rfl)
            try simp only [Act.put, List.getElem_toArray, List.getElem_cons_zero, List.getElem_cons_succ, List.setIfInBounds_toArray, List.set_cons_zero, List.set_cons_succ]
            refine wpAnyH_take (i := 6) (v := ?_) rfl (by kernel_rfl) (by kernel_rfl) (by kernel_rfl) (fun _ _ _ h => h) (Or.inl ⟨by kernel_rfl, ?hy6⟩) (by assumption) ?_
            case hy6 => (intro wI hSw; (try dsimp only at hSw); obtain ⟨-, t1, t2, t3, t4, t5⟩ := HS.out _ hSw; go_simp; try with_reducible rfl)
            try simp only [Act.put, List.getElem_toArray, List.getElem_cons_zero, List.getElem_cons_succ, List.setIfInBounds_toArray, List.set_cons_zero, List.set_cons_succ]
            refine wpAnyH_take (i := 7) (v := ?_) rfl (by kernel_rfl) (by kernel_rfl) (by kernel_rfl) (fun _ _ _ h => h) (Or.inl ⟨by kernel_rfl, ?hy7⟩) (by assumption) ?_
            case hy7 => (intro wI hSw; (try dsimp only at hSw); obtain ⟨-, t1, t2, t3, t4, t5⟩ := HS.out _ hSw; go_simp; try with_reducible rfl)
            try simp only [Act.put, List.getElem_toArray, List.getElem_cons_zero, List.getElem_cons_succ, List.setIfInBounds_toArray, List.set_cons_zero, List.set_cons_succ]
            refine wpAnyH_take (i := 8) (v := ?_) rfl (by kernel_rfl) (by kernel_rfl) (by kernel_rfl) (fun _ _ _ h => h) (Or.inl ⟨by kernel_rfl, ?hy8⟩) (by assumption) ?_
            case hy8 => (intro wI hSw; (try dsimp only at hSw); obtain ⟨-, t1, t2, t3, t4, t5⟩ := HS.out _ hSw; go_simp; try with_reducible rfl)
            try simp only [Act.put, List.getElem_toArray, List.getElem_cons_zero, List.getElem_cons_succ, List.setIfInBounds_toArray, List.set_cons_zero, List.set_cons_succ]
            refine wpAnyH_take (i := 9) (v := ?_) rfl (by kernel_rfl) (by kernel_rfl) (by kernel_rfl) (fun _ _ _ h => h) (Or.inl ⟨by kernel_rfl, ?hy9⟩) (by assumption) ?_
            case hy9 => (intro wI hSw; (try dsimp only at hSw); obtain ⟨-, t1, t2, t3, t4, t5⟩ := HS.out _ hSw; go_simp; try with_reducible rfl)
            try simp only [Act.put, List.getElem_toArray, List.getElem_cons_zero, List.getElem_cons_succ, List.setIfInBounds_toArray, List.set_cons_zero, List.set_cons_succ]
            refine wpAnyH_take (i := 10) (v := ?_) rfl (by kernel_rfl) (by kernel_rfl) (by kernel_rfl) (fun _ _ _ h => h) (Or.inl ⟨by kernel_rfl, ?hy10⟩) (by assumption) ?_
            case hy10 => (intro wI hSw; (try dsimp only at hSw); obtain ⟨-, t1, t2, t3, t4, t5⟩ := HS.out _ hSw; go_simp; try with_reducible rfl)
            try simp only [Act.put, List.getElem_toArray, List.getElem_cons_zero, List.getElem_cons_succ, List.setIfInBounds_toArray, List.set_cons_zero, List.set_cons_succ]
            refine wpAnyH_take (i := 11) (v := undef) rfl (by kernel_rfl) (by kernel_rfl) (by kernel_rfl) (fun _ _ _ h => h) (Or.inr ⟨by kernel_rfl, rfl⟩) (by assumption) ?_
            try simp only [Act.put, List.getElem_toArray, List.getElem_cons_zero, List.getElem_cons_succ, List.setIfInBounds_toArray, List.set_cons_zero, List.set_cons_succ]
            refine wpAnyH_take (i := 12) (v := undef) rfl (by kernel_rfl) (by kernel_rfl) (by kernel_rfl) (fun _ _ _ h => h) (Or.inr ⟨by kernel_rfl, rfl⟩) (by assumption) ?_
            try simp only [Act.put, List.getElem_toArray, List.getElem_cons_zero, List.getElem_cons_succ, List.setIfInBounds_toArray, List.set_cons_zero, List.set_cons_succ]
            refine wpAnyH_take (i := 13) (v := undef) rfl (by kernel_rfl) (by kernel_rfl) (by kernel_rfl) (fun _ _ _ h => h) (Or.inr ⟨by kernel_rfl, rfl⟩) (by assumption) ?_
            try simp only [Act.put, List.getElem_toArray, List.getElem_cons_zero, List.getElem_cons_succ, List.setIfInBounds_toArray, List.set_cons_zero, List.set_cons_succ]
            refine wpAnyH_take (i := 14) (v := undef) rfl (by kernel_rfl) (by kernel_rfl) (by kernel_rfl) (fun _ _ _ h => h) (Or.inr ⟨by kernel_rfl, rfl⟩) (by assumption) ?_
            try simp only [Act.put, List.getElem_toArray, List.getElem_cons_zero, List.getElem_cons_succ, List.setIfInBounds_toArray, List.set_cons_zero, List.set_cons_succ]
            refine wpAnyH_take (i := 15) (v := undef) rfl (by kernel_rfl) (by kernel_rfl) (by kernel_rfl) (fun _ _ _ h => h) (Or.inr ⟨by kernel_rfl, rfl⟩) (by assumption) ?_
            try simp only [Act.put, List.getElem_toArray, List.getElem_cons_zero, List.getElem_cons_succ, List.setIfInBounds_toArray, List.set_cons_zero, List.set_cons_succ]
            refine wpAnyH_take (i := 16) (v := undef) rfl (by kernel_rfl) (by kernel_rfl) (by kernel_rfl) (fun _ _ _ h => h) (Or.inr ⟨by kernel_rfl, rfl⟩) (by assumption) ?_
            try simp only [Act.put, List.getElem_toArray, List.getElem_cons_zero, List.getElem_cons_succ, List.setIfInBounds_toArray, List.set_cons_zero, List.set_cons_succ]
            refine wpAnyH_take (i := 17) (v := undef) rfl (by kernel_rfl) (by kernel_rfl) (by kernel_rfl) (fun _ _ _ h => h) (Or.inr ⟨by kernel_rfl, rfl⟩) (by assumption) ?_
            try simp only [Act.put, List.getElem_toArray, List.getElem_cons_zero, List.getElem_cons_succ, List.setIfInBounds_toArray, List.set_cons_zero, List.set_cons_succ]
            refine wpAnyH_take (i := 18) (v := undef) rfl (by kernel_rfl) (by kernel_rfl) (by kernel_rfl) (fun _ _ _ h => h) (Or.inr ⟨by kernel_rfl, rfl⟩) (by assumption) ?_
            try simp only [Act.put, List.getElem_toArray, List.getElem_cons_zero, List.getElem_cons_succ, List.setIfInBounds_toArray, List.set_cons_zero, List.set_cons_succ]
            refine wpAnyH_take (i := 19) (v := undef) rfl (by kernel_rfl) (by kernel_rfl) (by kernel_rfl) (fun _ _ _ h => h) (Or.inr ⟨by kernel_rfl, rfl⟩) (by assumption) ?_
            try simp only [Act.put, List.getElem_toArray, List.getElem_cons_zero, List.getElem_cons_succ, List.setIfInBounds_toArray, List.set_cons_zero, List.set_cons_succ]
            refine wpAnyH_take (i := 20) (v := undef) rfl (by kernel_rfl) (by kernel_rfl) (by kernel_rfl) (fun _ _ _ h => h) (Or.inr ⟨by kernel_rfl, rfl⟩) (by assumption) ?_
            try simp only [Act.put, List.getElem_toArray, List.getElem_cons_zero, List.getElem_cons_succ, List.setIfInBounds_toArray, List.set_cons_zero, List.set_cons_succ]
            refine wpAnyH_take (i := 21) (v := undef) rfl (by kernel_rfl) (by kernel_rfl) (by kernel_rfl) (fun _ _ _ h => h) (Or.inr ⟨by kernel_rfl, rfl⟩) (by assumption) ?_
            try simp only [Act.put, List.getElem_toArray, List.getElem_cons_zero, List.getElem_cons_succ, List.setIfInBounds_toArray, List.set_cons_zero, List.set_cons_succ]
            refine wpAnyH_take (i := 22) (v := undef) rfl (by kernel_rfl) (by kernel_rfl) (by kernel_rfl) (fun _ _ _ h => h) (Or.inr ⟨by kernel_rfl, rfl⟩) (by assumption) ?_
            try simp only [Act.put, List.getElem_toArray, List.getElem_cons_zero, List.getElem_cons_succ, List.setIfInBounds_toArray, List.set_cons_zero, List.set_cons_succ]
            refine wpAnyH_take (i := 23) (v := ?_) rfl (by kernel_rfl) (by kernel_rfl) (by kernel_rfl) (fun _ _ _ h => h) (Or.inl ⟨by kernel_rfl, ?hy23⟩) (by assumption) ?_
            case hy23 => (intro wI hSw; (try dsimp only at hSw); obtain ⟨-, t1, t2, t3, t4, t5⟩ := HS.out _ hSw; go_simp; try with_reducible rfl)
            try simp only [Act.put, List.getElem_toArray, List.getElem_cons_zero, List.getElem_cons_succ, List.setIfInBounds_toArray, List.set_cons_zero, List.set_cons_succ]
            refine wpAnyH_take (i := 24) (v := ?_) rfl (by kernel_rfl) (by kernel_rfl) (by kernel_rfl) (fun _ _ _ h => h) (Or.inl ⟨by kernel_rfl, ?hy24⟩) (by assumption) ?_
            case hy24 => (intro wI hSw; (try dsimp only at hSw); obtain ⟨-, t1, t2, t3, t4, t5⟩ := HS.out _ hSw; go_simp; try with_reducible rfl)
            try simp only [Act.put, List.getElem_toArray, List.getElem_cons_zero, List.getElem_cons_succ, List.setIfInBounds_toArray, List.set_cons_zero, List.set_cons_succ]
            refine wpAnyH_take (i := 25) (v := ?_) rfl (by kernel_rfl) (by kernel_rfl) (by kernel_rfl) (fun _ _ _ h => h) (Or.inl ⟨by kernel_rfl, ?hy25⟩) (by assumption) ?_
            case hy25 => (intro wI hSw; (try dsimp only at hSw); obtain ⟨-, t1, t2, t3, t4, t5⟩ := HS.out _ hSw; go_simp; try with_reducible rfl)
            try simp only [Act.put, List.getElem_toArray, List.getElem_cons_zero, List.getElem_cons_succ, List.setIfInBounds_toArray, List.set_cons_zero, List.set_cons_succ]
            refine wpAnyH_take (i := 26) (v := ?_) rfl (by kernel_rfl) (by kernel_rfl) (by kernel_rfl) (fun _ _ _ h => h) (Or.inl ⟨by kernel_rfl, ?hy26⟩) (by assumption) ?_
            case hy26 => (intro wI hSw; (try dsimp only at hSw); obtain ⟨-, t1, t2, t3, t4, t5⟩ := HS.out _ hSw; go_simp; try with_reducible rfl)
            try simp only [Act.put, List.getElem_toArray, List.getElem_cons_zero, List.getElem_cons_succ, List.setIfInBounds_toArray, List.set_cons_zero, List.set_cons_succ]
            refine wpAnyH_take (i := 27) (v := ?_) rfl (by kernel_rfl) (by kernel_rfl) (by kernel_rfl) (fun _ _ _ h => h) (Or.inl ⟨by kernel_rfl, ?hy27⟩) (by assumption) ?_
            case hy27 => (intro wI hSw; (try dsimp only at hSw); obtain ⟨-, t1, t2, t3, t4, t5⟩ := HS.out _ hSw; go_simp; try with_reducible rfl)
            try simp only [Act.put, List.getElem_toArray, List.getElem_cons_zero, List.getElem_cons_succ, List.setIfInBounds_toArray, List.set_cons_zero, List.set_cons_succ]
            refine wpAnyH_take (i := 28) (v := ?_) rfl (by kernel_rfl) (by kernel_rfl) (by kernel_rfl) (fun _ _ _ h => h) (Or.inl ⟨by kernel_rfl, ?hy28⟩) (by assumption) ?_
            case hy28 => (intro wI hSw; (try dsimp only at hSw); obtain ⟨-, t1, t2, t3, t4, t5⟩ := HS.out _ hSw; go_simp; try with_reducible rfl)
            try simp only [Act.put, List.getElem_toArray, List.getElem_cons_zero, List.getElem_cons_succ, List.setIfInBounds_toArray, List.set_cons_zero, List.set_cons_succ]
            refine wpAnyH_take (i := 29) (v := undef) rfl (by kernel_rfl) (by kernel_rfl) (by kernel_rfl) (fun _ _ _ h => h) (Or.inr ⟨by kernel_rfl, rfl⟩) (by assumption) ?_
            try simp only [Act.put, List.getElem_toArray, List.getElem_cons_zero, List.getElem_cons_succ, List.setIfInBounds_toArray, List.set_cons_zero, List.set_cons_succ]
            refine wpAnyH_take (i := 30) (v := undef) rfl (by kernel_rfl) (by kernel_rfl) (by kernel_rfl) (fun _ _ _ h => h) (Or.inr ⟨by kernel_rfl, rfl⟩) (by assumption) ?_
            try simp only [Act.put, List.getElem_toArray, List.getElem_cons_zero, List.getElem_cons_succ, List.setIfInBounds_toArray, List.set_cons_zero, List.set_cons_succ]
            refine wpAnyH_take (i := 31) (v := undef) rfl (by kernel_rfl) (by kernel_rfl) (by kernel_rfl) (fun _ _ _ h => h) (Or.inr ⟨by kernel_rfl, rfl⟩) (by assumption) ?_
            try simp only [Act.put, List.getElem_toArray, List.getElem_cons_zero, List.getElem_cons_succ, List.setIfInBounds_toArray, List.set_cons_zero, List.set_cons_succ]
            refine wpAnyH_take (i := 32) (v := undef) rfl (by kernel_rfl) (by kernel_rfl) (by kernel_rfl) (fun _ _ _ h => h) (Or.inr ⟨by kernel_rfl, rfl⟩) (by assumption) ?_
            try simp only [Act.put, List.getElem_toArray, List.getElem_cons_zero, List.getElem_cons_succ, List.setIfInBounds_toArray, List.set_cons_zero, List.set_cons_succ]
            refine wpAnyH_take (i := 33) (v := ?_) rfl (by kernel_rfl) (by kernel_rfl) (by kernel_rfl) (fun _ _ _ h => h) (Or.inl ⟨by kernel_rfl, ?hy33⟩) (by assumption) ?_
            case hy33 => (intro wI hSw; (try dsimp only at hSw); obtain ⟨-, t1, t2, t3, t4, t5⟩ := HS.out _ hSw; go_simp; try with_reducible rfl)
            try simp only [Act.put, List.getElem_toArray, List.getElem_cons_zero, List.getElem_cons_succ, List.setIfInBounds_toArray, List.set_cons_zero, List.set_cons_succ]
            refine wpAnyH_take (i := 34) (v := ?_) rfl (by kernel_rfl) (by kernel_rfl) (by kernel_rfl) (fun _ _ _ h => h) (Or.inl ⟨by kernel_rfl, ?hy34⟩) (by assumption) ?_
            case hy34 => (intro wI hSw; (try dsimp only at hSw); obtain ⟨-, t1, t2, t3, t4, t5⟩ := HS.out _ hSw; go_simp; try with_reducible rfl)
            try simp only [Act.put, List.getElem_toArray, List.getElem_cons_zero, List.getElem_cons_succ, List.setIfInBounds_toArray, List.set_cons_zero, List.set_cons_succ]
            refine wpAnyH_take (i := 35) (v := ?_) rfl (by kernel_rfl) (by kernel_rfl) (by kernel_rfl) (fun _ _ _ h => h) (Or.inl ⟨by kernel_rfl, ?hy35⟩) (by assumption) ?_
            case hy35 => (intro wI hSw; (try dsimp only at hSw); obtain ⟨-, t1, t2, t3, t4, t5⟩ := HS.out _ hSw; go_simp; try with_reducible rfl)
            try simp only [Act.put, List.getElem_toArray, List.getElem_cons_zero, List.getElem_cons_succ, List.setIfInBounds_toArray, List.set_cons_zero, List.set_cons_succ]
            refine wpAnyH_ready (rs := [36]) (by kernel_rfl) (by simp) ?_
            refine AllReadyH.cons rfl (fun K hK => ?_) AllReadyH.nil
            go_simp
            go_wp2_with fail
            refine (AW.out _ (Below.on (HS.out _ (Below.refl _ _)).1.bel hHeld)).mono ?_
            rintro e W36 ⟨rfl, hb⟩
            have hH2 := Below.on hHeld hb
            refine hK.out _ _ hH2 (fun _ => ?_)
            clear hK K hHeld hb
            have hHeld := hH2
            clear hH2
            try simp only [Act.put, List.getElem_toArray, List.getElem_cons_zero, List.getElem_cons_succ, List.setIfInBounds_toArray, List.set_cons_zero, List.set_cons_succ]
            refine wpAnyH_take (i := 37) (v := ?_) rfl (by kernel_rfl) (by kernel_rfl) (by kernel_rfl) (fun _ _ _ h => h) (Or.inl ⟨by kernel_rfl, ?hy37⟩) (by assumption) ?_
            case hy37 => (intro wI hSw; (try dsimp only at hSw); obtain ⟨-, t1, t2, t3, t4, t5⟩ := HS.out _ hSw; go_simp; try with_reducible rfl)
            try simp only [Act.put, List.getElem_toArray, List.getElem_cons_zero, List.getElem_cons_succ, List.setIfInBounds_toArray, List.set_cons_zero, List.set_cons_succ]
            refine wpAnyH_take (i := 38) (v := ?_) rfl (by kernel_rfl) (by kernel_rfl) (by kernel_rfl) (fun _ _ _ h => h) (Or.inl ⟨by kernel_rfl, ?hy38⟩) (by assumption) ?_
            case hy38 => (intro wI hSw; (try dsimp only at hSw); obtain ⟨-, t1, t2, t3, t4, t5⟩ := HS.out _ hSw; go_simp; try with_reducible rfl)
            try simp only [Act.put, List.getElem_toArray, List.getElem_cons_zero, List.getElem_cons_succ, List.setIfInBounds_toArray, List.set_cons_zero, List.set_cons_succ]
            refine wpAnyH_done (by kernel_rfl) ?_ _
            go_wp2
            go_ret
            exact ⟨rfl, Below.on (HS.out _ (Below.refl _ _)).1.bel hHeld⟩

theorem walk (a0 : Int) (w : World) (w0 : (Lit.int .i64 a0).wf = true) (hL : laidMetH Tryd.prog Rows.forestDropsRow.laid w) :
    Calls Tryd.prog 6 #[.int .i64 a0] w fun e w' => e = .returned (.bool true) ∧ Below w.heap.size w w' := by
  obtain ⟨es, hE⟩ := fe5 hL
  exact core a0 w (wfB w0) es hE
end Go.Proofs.YtdgknofpkafppaaDoor.forestDrops
