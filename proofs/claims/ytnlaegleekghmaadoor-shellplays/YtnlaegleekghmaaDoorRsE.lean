/- The document's windows: Drop, Ack. -/
import Derived.Test.YtnlaegleekghmaaDoorRsD
namespace Go.Proofs.YtnlaegleekghmaaDoor
open Go Go.RowKit

variable {base : Nat} {w w' : World} {q : Nat} {v : Value} {R : Dwl} {id : Int} {e : Dw}
/-- The first j, without one. -/
def dro (R : Dwl) (id : Int) (j : Nat) : Dwl := rm (R.take j) id
theorem dro_zero (R : Dwl) (id : Int) : dro R id 0 = [] := rfl
theorem dro_succ {R : Dwl} {id : Int} {j : Nat} {x : Int × Dw} (h : R[j]? = some x) : dro R id (j + 1) = if x.1 = id then dro R id j else dro R id j ++ [x] := by
  rw [dro, dro, rm, rm, List.take_add_one, h, List.filter_append]
  by_cases hx : x.1 = id
  · rw [if_pos hx]
    simp [hx]
  · rw [if_neg hx]
    simp [hx]
theorem dro_all (R : Dwl) (id : Int) : dro R id R.length = rm R id := by rw [dro, List.take_length]
theorem dro_len (R : Dwl) (id : Int) (j : Nat) : (dro R id j).length ≤ j := Nat.le_trans (rm_length _ _) (List.length_take_le _ _)
/-- A round of Drop's loop. -/
structure Dr (w : World) (R : Dwl) (id : Int) (j : Nat) (v : Value) (u : World) : Prop where
  own : u.ownsRow w.heap.size 49 3 v (dro R id j).length (dcs (dro R id j))
  bel : RowKit.Below w.heap.size w u
theorem Dr.form {j : Nat} {u : World} (h : Dr w R id j v u) : ∃ a c, v = .slice a (dro R id j).length c := by
  rcases h.own.2 with ⟨rfl, h0⟩ | ⟨g, cap, cur, rfl, _⟩
  · exact ⟨none, 0, by rw [h0]⟩
  · exact ⟨_, _, rfl⟩
set_option maxRecDepth 100000 in
set_option maxHeartbeats 1000000 in
theorem rdrop18_any (h : Ds base w q v R) (id : Int) (hl : R.length ≤ 1000000) :
    Calls Tryd.prog 13 #[.pointer (some ⟨q, 0, none⟩), .int .i64 id] w fun e w' => e = .returned (.int .i64 (wDrpE (dab R) id : Nat)) ∧ DsR base w q v R (wDrpF (dab R) id) w' := by
  have HS := hid (rstep_any h id)
  cases hg : gt R id with
  | none =>
    have HR := hid ((DsR.refl h (Below.refl _ _)).as (show dab R = wDrpF (dab R) id by rw [wDrpF, gt_dab, hg]; rfl))
    rw [wStep_no hg] at HS
    rw [wDrpE, dErr_no hg]
    clear hg h hl
    go_enter Tryd.func13, Tryd.ntmps13
    go_wp2_with fail
    refine HS.out.mono ?_
    rintro e w1 ⟨rfl, rfl⟩
    go_wp2
    go_ret
    exact ⟨rfl, HR.out⟩
  | some e =>
    rw [wStep_yes hg] at HS
    rw [wDrpE, dErr_yes hg]
    have e0 : ((e.s.step : Int) == -1) = false := by rw [beq_eq_false_iff_ne]; omega
    by_cases hs : e.s.step = 0
    · rw [if_pos hs]
      rw [hs] at HS
      obtain ⟨i0, hi, hz0, hz1, hz2⟩ := infoWp
      obtain ⟨a, c, hv, hlen⟩ := h.shape
      subst hv
      have HD := hid h
      have HLL := hid hl
      have HFIN : Hid (∀ v6 u6, Dr w R id R.length v6 u6 → DsR base w q (.slice a R.length c) R (wDrpF (dab R) id) (u6.setCell ⟨q, 0, none⟩ v6)) := fun v6 u6 h1 => by
        have h2 := h1.own
        rw [dro_all] at h2
        exact (h.swap h1.bel h2 (keys_rm h.nd id) (fun x e hx => by
          rw [gt_rm] at hx
          split at hx
          · cases hx
          · exact .inl hx)).as (by rw [wDrpF, gt_dab, hg, dab_rm]; simp only [Option.map_some, hs, if_true])
      have c0 := h.c0
      have l0 := h.lt
      obtain ⟨N, hN⟩ : ∃ N, N = R.length := ⟨_, rfl⟩
      have HN := hid hN
      rw [← hN] at c0 hlen hl HFIN ⊢
      clear h hg hs e0 hN
      go_enter Tryd.func13, Tryd.ntmps13
      go_wp2_with fail
      refine HS.out.mono ?_
      rintro e' w1 ⟨rfl, rfl⟩
      go_wp2
      go_loopw [5, 6] (fun v i wr => ∃ j : Nat, i = .int .i64 j ∧ j ≤ N ∧ Dr w1 R id j v wr) (fun _ i _ => N - (numOf i).toNat)
      case atStart => exact ⟨0, rfl, by omega, World.ownsRow_nil _ _ _ _, Below.refl _ _⟩
      case round =>
        obtain ⟨j, rfl, hj, hd⟩ := hrel
        obtain ⟨va, vc, hvv⟩ := hd.form
        subst hvv
        have c1 := (HD.out.on hd.bel).c0
        have l1 := (HD.out.on hd.bel).lt
        rw [← HN.out] at c1
        by_cases hgo : j < N
        · have e1 : decide ((j : Int) < N) = true := decide_eq_true (by omega)
          have e2 : (j : Int) < N := by omega
          obtain ⟨x, hx⟩ : ∃ x, R[j]? = some x := ⟨_, List.getElem?_eq_getElem (by rw [← HN.out]; exact hgo)⟩
          obtain ⟨g, cc, hv, _, hgl, _, _, _, _, hcell⟩ := (HD.out.on hd.bel).form (by rw [← HN.out]; omega)
          cases hv
          have d0 : wr.cell? ⟨g, j * 3, none⟩ = some (.int .i64 x.1) := by
            rw [hcell (j * 3) (by rw [← HN.out]; omega)]
            exact dcs_at hx 0 (by decide)
          have d1 : wr.cell? ⟨g, j * 3 + 1, none⟩ = some (.int .i64 x.2.s.step) := by
            rw [hcell (j * 3 + 1) (by rw [← HN.out]; omega)]
            exact dcs_at hx 1 (by decide)
          have d2 : wr.cell? ⟨g, j * 3 + 2, none⟩ = some (.slice x.2.a x.2.n x.2.c) := by
            rw [hcell (j * 3 + 2) (by rw [← HN.out]; omega)]
            exact dcs_at hx 2 (by decide)
          have HX := hid (dro_succ (id := id) hx)
          have HDR := hid hd
          have hll := dro_len R id j
          clear hcell hx hd
          have hne : (x.1 != id) = !(x.1 == id) := rfl
          cases hs : (x.1 == id)
          · rw [hs] at hne
            have hne' : ¬ x.1 = id := fun h => by rw [h] at hs; simp at hs
            rw [if_neg hne'] at HX
            have HB5 : Hid (w1.heap.size ≤ (wr.alloc (.cells #[.int .i64 x.1, .int .i64 x.2.s.step, .slice x.2.a x.2.n x.2.c] 49)).heap.size) := by
              have := HDR.out.bel.size
              rw [Hid]
              simp
              omega
            have HNX : Hid (∀ v6 u6, World.ownsRow u6 w1.heap.size 49 3 v6 ((dro R id j).length + 1) (dcs (dro R id j) ++ dcs [x]) → (wr.alloc (.cells #[.int .i64 x.1, .int .i64 x.2.s.step, .slice x.2.a x.2.n x.2.c] 49)).grownBy u6 (Value.slice va (dro R id j).length vc).ownBlock → Dr w1 R id (j + 1) v6 u6) := fun v6 u6 h1 h2 => by
              have hb5 := Below.on HDR.out.bel ((Below.refl wr.heap.size wr).alloc (Nat.le_refl _) (.cells #[.int .i64 x.1, .int .i64 x.2.s.step, .slice x.2.a x.2.n x.2.c] 49))
              refine ⟨?_, hb5.grown h2 hb5.size (fun k hk => (HDR.out.own.lt k hk).1)⟩
              rw [HX.out, List.length_append, dcs, List.flatMap_append]
              exact h1
            have HOA := hid (HDR.out.own.alloc (.cells #[.int .i64 x.1, .int .i64 x.2.s.step, .slice x.2.a x.2.n x.2.c] 49))
            clear hs hne' HX
            generalize (dro R id j).length = M at *
            go_wp2_with (at_builtin; refine wpList_append_own_src _ rfl (.tmp 33) (.tmp 41) 26 26 rfl w1.heap.size 49 i0 _ 3 40 Tryd.underlying26 hi hz0 hz1 hz2 rfl _ _ _ rfl HOA.out _ _ _ rfl (srcW _ x) (by simp only [maxLen]; omega) (fitsW (by omega)) HB5.out ?_; intro v6 w6 o6 g6; have HZ := hid (HNX.out _ _ o6 g6); clear o6 g6)
            go_roundw
            case rel => exact ⟨j + 1, by go_num, by omega, HZ.out⟩
            case measure => simp [numOf]; omega
          · rw [hs] at hne
            have hne' : x.1 = id := beq_iff_eq.1 hs
            rw [if_pos hne'] at HX
            have HZ : Hid (Dr w1 R id (j + 1) (.slice va (dro R id j).length vc) wr) := ⟨by rw [HX.out]; exact HDR.out.own, HDR.out.bel⟩
            clear hs hne' HX HDR
            generalize (dro R id j).length = M at *
            go_wp2
            go_roundw
            case rel => exact ⟨j + 1, by go_num, by omega, HZ.out⟩
            case measure => simp [numOf]; omega
        · have e1 : decide ((j : Int) < N) = false := decide_eq_false (by omega)
          obtain rfl : j = N := by omega
          have HR := hid (HFIN.out _ _ hd)
          have f1 := (HD.out.on hd.bel).fz
          clear hd HFIN
          generalize (dro R id j).length = M at *
          go_wp2
          go_ret
          exact ⟨rfl, HR.out⟩
    · have HR := hid ((DsR.refl h (Below.refl _ _)).as (show dab R = wDrpF (dab R) id by rw [wDrpF, gt_dab, hg]; simp only [Option.map_some, hs, if_false]))
      rw [if_neg hs]
      have e1 : ((e.s.step : Int) == 0) = false := by rw [beq_eq_false_iff_ne]; omega
      clear hg h hs hl
      go_enter Tryd.func13, Tryd.ntmps13
      go_wp2_with fail
      refine HS.out.mono ?_
      rintro e w1 ⟨rfl, rfl⟩
      go_wp2
      go_ret
      exact ⟨rfl, HR.out⟩
end Go.Proofs.YtnlaegleekghmaaDoor
