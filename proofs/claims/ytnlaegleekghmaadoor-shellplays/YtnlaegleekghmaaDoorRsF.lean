/- The document's windows: Ack. -/
import Derived.Test.YtnlaegleekghmaaDoorRsE
namespace Go.Proofs.YtnlaegleekghmaaDoor
open Go Go.RowKit

variable {base : Nat} {w w' : World} {q : Nat} {v : Value} {R : Dwl} {id : Int} {e : Dw}
/-- 'l[k:]' of a slice that is read. -/
theorem Rz.cutO {a : Option Addr} {n c : Nat} {l : List Int} (h : Rz w a n c l) (k : Nat) (hk : k ≤ n) : Rz w (cutO a c k) (n - k) (c - k) (l.drop k) := by
  have hle := h.le
  have hl := h.len
  unfold Proofs.YtnlaegleekghmaaDoor.cutO
  split
  · rename_i hc
    have e1 : n - k = 0 := by omega
    have e2 : c - k = 0 := by omega
    rw [e1, e2, List.drop_eq_nil_of_le (by omega)]
    exact Rz.zero w a
  · cases a with
    | none =>
      have := h.hnil rfl
      omega
    | some x =>
      obtain ⟨b, off, s⟩ := x
      by_cases hn : 0 < n
      · obtain ⟨b', off', he, _⟩ := h.pl hn
        cases he
        rw [Option.map_some, Go.WideShapes.add_plain]
        exact h.drop k hk
      · have e1 : n - k = 0 := by omega
        have e2 : k = 0 := by omega
        refine ⟨by rw [List.length_drop]; omega, by omega, by have := h.max; omega, (fun h => by cases h), fun h => by omega⟩
set_option maxRecDepth 100000 in
set_option maxHeartbeats 1000000 in
theorem rack18_any (h : Ds base w q v R) (id z : Int) (hl : ∀ e, gt R id = some e → e.n ≤ 1000000) :
    Calls Tryd.prog 21 #[.pointer (some ⟨q, 0, none⟩), .int .i64 id, .int .i64 z] w fun e w' => e = .returned (.int .i64 (wAckE (dab R) id z : Nat)) ∧ DsR base w q v R (wUp (dab R) id (ackS z)) w' := by
  have HS := hid (rstep_any h id)
  have HW := hid (rw_any h id)
  cases hg : gt R id with
  | none =>
    have HR := hid ((DsR.refl h (Below.refl _ _)).as (dUp_no (f := ackS z) hg).symm)
    rw [wStep_no hg] at HS
    rw [wAckE, dErr_no hg]
    clear hg h hl HW
    go_enter Tryd.func21, Tryd.ntmps21
    go_wp2_with fail
    refine HS.out.mono ?_
    rintro e w1 ⟨rfl, rfl⟩
    go_wp2
    go_ret
    exact ⟨rfl, HR.out⟩
  | some e =>
    obtain ⟨g, c, hv, _⟩ := h.at_ hg
    obtain ⟨c1, c2, f1, l1⟩ := h.kc hg hv w (Below.refl _ _)
    rw [hv, rwV_yes hg] at HW
    rw [wStep_yes hg] at HS
    rw [wAckE, dErr_yes hg, ackE]
    have e0 : ((e.s.step : Int) == -1) = false := by rw [beq_eq_false_iff_ne]; omega
    by_cases hs : e.s.step = 0
    · have HR := hid ((DsR.refl h (Below.refl _ _)).as (dUp_none (f := ackS z) hg (by rw [ackS, if_pos hs])).symm)
      rw [if_pos hs]
      rw [hs] at HS
      clear hg h hl HW hs hv c1 e0 c2 f1 l1
      go_enter Tryd.func21, Tryd.ntmps21
      go_wp2_with fail
      refine HS.out.mono ?_
      rintro e w1 ⟨rfl, rfl⟩
      go_wp2
      go_ret
      exact ⟨rfl, HR.out⟩
    · rw [if_neg hs]
      have e1 : ((e.s.step : Int) == 0) = false := by rw [beq_eq_false_iff_ne]; omega
      obtain ⟨i0, hi, hz0, hz1, hz2⟩ := infoZp
      have hrz := h.rd id e hg
      have hlen := hrz.len
      have hn6 := hl e hg
      have hc6 := hrz.small.2
      have hnc := hrz.le
      have HRZ := hid hrz
      have HO := hid (OwZ.nil w)
      have HNO : Hid (zx z e.s.ser = none → DsR base w q v R (wUp (dab R) id (ackS z)) w) := fun hx => (DsR.refl h (Below.refl _ _)).as (dUp_none (f := ackS z) hg (by rw [ackS, if_neg hs, hx])).symm
      have HCUT : Hid (∀ j, j + 1 ≤ e.n → Src Tryd.prog 1 47 (.slice (cutO e.a e.c (j + 1)) (e.n - (j + 1)) (e.c - (j + 1))) (e.n - (j + 1)) (ic (e.s.ser.drop (j + 1))) w) := fun j hj => (hrz.cutO (j + 1) hj).src (P := Tryd.prog) (t := 47) (e := 3) Tryd.underlying47
      have HFIN : Hid (∀ j, zx z e.s.ser = some j → j + 1 ≤ e.n → ∀ v5 u5, World.ownsRow u5 w.heap.size 3 1 v5 (([] : List Int).length + (e.n - (j + 1))) (ic [] ++ ic (e.s.ser.drop (j + 1))) → w.grownBy u5 (Value.slice none 0 0).ownBlock →
          ∃ a6 c6, v5 = .slice a6 (e.n - (j + 1)) c6 ∧ u5.cell? ⟨g, ix R id * 3 + 1, none⟩ = some (.int .i64 e.s.step) ∧ u5.cell? ⟨g, ix R id * 3 + 2, none⟩ = some (.slice e.a e.n e.c) ∧ (∀ j, u5.frozen? ⟨g, j, none⟩ = false) ∧ g < u5.heap.size ∧
            (((e.s.step : Int) == 2) = false → DsR base w q v R (wUp (dab R) id (ackS z)) (u5.setCell ⟨g, ix R id * 3 + 2, none⟩ (.slice a6 (e.n - (j + 1)) c6))) ∧
            (((e.s.step : Int) == 2) = true → DsR base w q v R (wUp (dab R) id (ackS z)) ((u5.setCell ⟨g, ix R id * 3 + 2, none⟩ (.slice a6 (e.n - (j + 1)) c6)).setCell ⟨g, ix R id * 3 + 1, none⟩ (.int .i64 3)))) := fun j hx hj v5 u5 h1 h2 => by
        have h4 : OwZ w u5 v5 (e.s.ser.drop (j + 1)) := (OwZ.nil w).grown (by rw [List.length_drop, hlen]) h1 h2
        obtain ⟨a6, c6, rfl, h5, h6⟩ := h4.rd
        have el : (e.s.ser.drop (j + 1)).length = e.n - (j + 1) := by rw [List.length_drop, hlen]
        rw [el] at h5 ⊢
        obtain ⟨c1, c2, f1, l1⟩ := h.kc hg hv u5 h4.bel
        refine ⟨a6, c6, rfl, c1, c2, f1, l1, fun h2 => ?_, fun h2 => ?_⟩
        · refine (h.putBoth hg h4.bel hv e.s.step a6 _ c6 (e.s.ser.drop (j + 1)) h5 (obk_of h6) _ (.inl ⟨rfl, rfl⟩)).as (dUp_some (f := ackS z) hg ?_).symm
          rw [ackS, if_neg hs, hx, if_neg (fun h => by rw [h] at h2; cases h2)]
        · refine (h.putBoth hg h4.bel hv 3 a6 _ c6 (e.s.ser.drop (j + 1)) h5 (obk_of h6) _ (.inr (.inr rfl))).as (dUp_some (f := ackS z) hg ?_).symm
          rw [ackS, if_neg hs, hx, if_pos (by have := beq_iff_eq.1 h2; omega)]
      obtain ⟨E, HE⟩ : ∃ E : Nat, Hid (E = if (zx z e.s.ser).isSome = true then 0 else 13) := ⟨_, rfl⟩
      rw [← HE.out]
      clear h hg hs hl hrz hv
      generalize ix R id * 3 = P at *
      obtain ⟨ea, en, ec, sk, ser⟩ := e
      dsimp only at *
      go_enter Tryd.func21, Tryd.ntmps21
      go_wp2_with fail
      refine HS.out.mono ?_
      rintro e' w1 ⟨rfl, rfl⟩
      go_wp2_with fail
      refine HW.out.mono ?_
      rintro e' w1 ⟨rfl, rfl⟩
      go_wp2
      go_loopw [8] (fun i wr => ∃ j : Nat, i = .int .i64 j ∧ j ≤ en ∧ (∀ i y, i < j → ser[i]? = some y → y ≠ z) ∧ wr = w1) (fun i _ => en - (numOf i).toNat)
      case atStart => exact ⟨0, rfl, by omega, fun i y hi => absurd hi (by omega), rfl⟩
      case round =>
        obtain ⟨j, rfl, hj, hq, rfl⟩ := hrel
        by_cases hgo : j < en
        · have e3 : decide ((j : Int) < en) = true := decide_eq_true (by omega)
          have e4 : (j : Int) < en := by omega
          obtain ⟨bl, off, x, rfl, _, hx, d0⟩ := HRZ.out.at_ hgo
          have HX := hid hx
          have HQ := hid hq
          clear hx hq
          cases hs : (x == z)
          · have HN : Hid (∀ i y, i < j + 1 → ser[i]? = some y → y ≠ z) := fun i y hi hy => by
              rcases Nat.lt_or_ge i j with h' | h'
              · exact HQ.out i y h' hy
              · obtain rfl : i = j := by omega
                rw [HX.out] at hy
                cases hy
                exact fun e => by simp [e] at hs
            go_wp2
            go_roundw
            case rel => exact ⟨j + 1, by go_num, by omega, HN.out, trivial⟩
            case measure => simp [numOf]; omega
          · have hxz : zx z ser = some j := by
              rw [zx_drop HQ.out, zx_at HX.out, if_pos (beq_iff_eq.1 hs)]
              simp
            have HF := hid (HFIN.out j hxz hgo)
            have HC := hid (HCUT.out j hgo)
            have HXZ : Hid ((if (zx z ser).isSome = true then 0 else 13) = 0) := by rw [hxz]; rfl
            clear HFIN HCUT HNO hxz HRZ
            by_cases hcc : ec = j + 1
            · have hcz : ec - (j + 1) = 0 := by omega
              rw [cutO, if_pos hcc, hcz] at HC
              clear hcz
              cases e6 : ((sk : Int) == 2)
              all_goals
                go_wp2_with (at_builtin; refine wpList_append_own_src _ rfl (.const (.slice none 0 0)) (.tmp 44) 47 47 rfl wr.heap.size 3 i0 (.int .i64 0) 1 8 Tryd.underlying47 hi hz0 hz1 hz2 rfl _ _ _ rfl HO.out.own _ _ _ rfl HC.out (by simp only [maxLen, List.length_nil]; omega) (fitsZ (by simp only [List.length_nil]; omega)) (Nat.le_refl _) ?_; intro v5 w5 o5 g5; obtain ⟨a6, c6, rfl, k1, k2, k3, k4, k5, k6⟩ := HF.out _ _ o5 g5; have K5 := hid k5; have K6 := hid k6; clear o5 g5 k5 k6)
                go_ret
                rw [HE.out, HXZ.out]
                first | exact ⟨rfl, K5.out e6⟩ | exact ⟨rfl, K6.out e6⟩
            · rw [cutO, if_neg hcc] at HC
              cases e6 : ((sk : Int) == 2)
              all_goals
                go_wp2_with (at_builtin; refine wpList_append_own_src _ rfl (.const (.slice none 0 0)) (.tmp 44) 47 47 rfl wr.heap.size 3 i0 (.int .i64 0) 1 8 Tryd.underlying47 hi hz0 hz1 hz2 rfl _ _ _ rfl HO.out.own _ _ _ rfl HC.out (by simp only [maxLen, List.length_nil]; omega) (fitsZ (by simp only [List.length_nil]; omega)) (Nat.le_refl _) ?_; intro v5 w5 o5 g5; obtain ⟨a6, c6, rfl, k1, k2, k3, k4, k5, k6⟩ := HF.out _ _ o5 g5; have K5 := hid k5; have K6 := hid k6; clear o5 g5 k5 k6)
                go_ret
                rw [HE.out, HXZ.out]
                first | exact ⟨rfl, K5.out e6⟩ | exact ⟨rfl, K6.out e6⟩
        · have e3 : decide ((j : Int) < en) = false := decide_eq_false (by omega)
          have hx : zx z ser = none := by
            rw [zx_drop hq, List.drop_eq_nil_of_le (by omega)]
            rfl
          have HR := hid (HNO.out hx)
          have HXZ : Hid ((if (zx z ser).isSome = true then 0 else 13) = 13) := by rw [hx]; rfl
          clear hx hq HFIN HCUT HNO
          go_wp2
          go_ret
          rw [HE.out, HXZ.out]
          exact ⟨rfl, HR.out⟩
end Go.Proofs.YtnlaegleekghmaaDoor
