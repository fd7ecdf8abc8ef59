/- The document's windows: Top, Untop, Commit, Send. -/
import Derived.Test.YtnlaegleekghmaaDoorRsB
import Derived.Test.YtnlaegleekghmaaDoorShD
namespace Go.Proofs.YtnlaegleekghmaaDoor
open Go Go.RowKit

variable {base : Nat} {w w' : World} {q : Nat} {v : Value} {R : Dwl} {id : Int} {e : Dw}
set_option maxRecDepth 100000 in
theorem rtop18_any (h : Ds base w q v R) (id : Int) :
    Calls Tryd.prog 15 #[.pointer (some ⟨q, 0, none⟩), .int .i64 id] w fun e w' => e = .returned (.int .i64 (wTopE (dab R) id : Nat)) ∧ DsR base w q v R (wUp (dab R) id topS) w' := by
  have HS := hid (rstep_any h id)
  have HW := hid (rw_any h id)
  cases hg : gt R id with
  | none =>
    have HR : Hid (DsR base w q v R (wUp (dab R) id topS) w) := (DsR.refl h (Below.refl _ _)).as (dUp_no hg).symm
    rw [wStep_no hg] at HS
    rw [wTopE, dErr_no hg]
    clear hg h HW
    go_enter Tryd.func15, Tryd.ntmps15
    go_wp2_with fail
    refine HS.out.mono ?_
    rintro e w1 ⟨rfl, rfl⟩
    go_wp2
    go_ret
    exact ⟨rfl, HR.out⟩
  | some e =>
    obtain ⟨g, c, hv, _, l1, _, f1, c1, _⟩ := h.at_ hg
    rw [hv, rwV_yes hg] at HW
    rw [wStep_yes hg] at HS
    rw [wTopE, dErr_yes hg]
    have e0 : ((e.s.step : Int) == -1) = false := by rw [beq_eq_false_iff_ne]; omega
    by_cases hs : e.s.step = 0
    · have HR := hid ((h.putStep hg hv 1).as (dUp_some (f := topS) hg (by rw [topS, if_pos hs])).symm)
      rw [if_pos hs]
      rw [hs] at HS
      clear hg h hv hs e0 l1
      go_enter Tryd.func15, Tryd.ntmps15
      go_wp2_with fail
      refine HS.out.mono ?_
      rintro e w1 ⟨rfl, rfl⟩
      go_wp2_with fail
      refine HW.out.mono ?_
      rintro e w1 ⟨rfl, rfl⟩
      go_wp2
      go_ret
      exact ⟨rfl, HR.out⟩
    · have HR := hid ((DsR.refl h (Below.refl _ _)).as (dUp_none (f := topS) hg (by rw [topS, if_neg hs])).symm)
      rw [if_neg hs]
      have e1 : ((e.s.step : Int) == 0) = false := by simp; omega
      clear hg h hv hs HW f1 l1
      go_enter Tryd.func15, Tryd.ntmps15
      go_wp2_with fail
      refine HS.out.mono ?_
      rintro e w1 ⟨rfl, rfl⟩
      go_wp2
      go_ret
      exact ⟨rfl, HR.out⟩
theorem dUn_no {f : Wn → Option Wn} (hf : ∀ x : Wn, x.step = 0 → f x = none) (hq : ∀ e, gt R id = some e → e.s.step = 0) : wUp (dab R) id f = dab R := by
  cases hg : gt R id with
  | none => exact dUp_no hg
  | some e => exact dUp_none hg (hf _ (hq e hg))
theorem dUntE_no (hq : ∀ e, gt R id = some e → e.s.step = 0) : wUntE (dab R) id = 5 ∧ decide (wStep (dab R) id < 1) = true := by
  cases hg : gt R id with
  | none => exact ⟨dErr_no hg, by rw [wStep_no hg]; rfl⟩
  | some e => exact ⟨by rw [wUntE, dErr_yes hg, if_pos (hq e hg)], by rw [wStep_yes hg, hq e hg]; rfl⟩
set_option maxRecDepth 100000 in
theorem runtop18_any (h : Ds base w q v R) (id : Int) :
    Calls Tryd.prog 17 #[.pointer (some ⟨q, 0, none⟩), .int .i64 id] w fun e w' => e = .returned (.int .i64 (wUntE (dab R) id : Nat)) ∧ DsR base w q v R (wUp (dab R) id untS) w' := by
  have HS := hid (rstep_any h id)
  have HW := hid (rw_any h id)
  by_cases hq : ∀ e, gt R id = some e → e.s.step = 0
  · have HR := hid ((DsR.refl h (Below.refl _ _)).as (dUn_no (f := untS) (fun x hx => by rw [untS, if_pos hx]) hq).symm)
    have e1 := (dUntE_no hq).2
    rw [(dUntE_no hq).1]
    clear hq h HW
    generalize wStep (dab R) id = k at *
    go_enter Tryd.func17, Tryd.ntmps17
    go_wp2_with fail
    refine HS.out.mono ?_
    rintro e w1 ⟨rfl, rfl⟩
    go_wp2
    go_ret
    exact ⟨rfl, HR.out⟩
  · obtain ⟨e, hq⟩ := Classical.not_forall.1 hq
    obtain ⟨hg, hs⟩ := Classical.not_imp.1 hq
    obtain ⟨g, c, hv, _, l1, _, f1, c1, c2⟩ := h.at_ hg
    rw [hv, rwV_yes hg] at HW
    rw [wStep_yes hg] at HS
    rw [wUntE, dErr_yes hg, if_neg hs]
    have HR := hid ((h.putBoth hg (Below.refl _ _) hv 0 none 0 0 [] (Rz.nil _) (fun b hb => by simp [obk] at hb) _ (.inr (.inl rfl))).as (dUp_some (f := untS) hg (by rw [untS, if_neg hs])).symm)
    have e0 : decide ((e.s.step : Int) < 1) = false := decide_eq_false (by omega)
    clear hq h hg hs hv
    go_enter Tryd.func17, Tryd.ntmps17
    go_wp2_with fail
    refine HS.out.mono ?_
    rintro e w1 ⟨rfl, rfl⟩
    go_wp2_with fail
    refine HW.out.mono ?_
    rintro e w1 ⟨rfl, rfl⟩
    go_wp2
    go_ret
    exact ⟨rfl, HR.out⟩
set_option maxRecDepth 100000 in
set_option maxHeartbeats 1000000 in
theorem rcommit18_any (h : Ds base w q v R) (id : Int) (b : Bool) :
    Calls Tryd.prog 23 #[.pointer (some ⟨q, 0, none⟩), .int .i64 id, .bool b] w fun e w' => e = .returned (.tuple #[.int .i64 (wComN (dab R) id b : Nat), .int .i64 (wComE (dab R) id b : Nat)]) ∧ DsR base w q v R (wUp (dab R) id (comS b)) w' := by
  have HS := hid (rstep_any h id)
  have HW := hid (rw_any h id)
  cases hg : gt R id with
  | none =>
    have HR := hid ((DsR.refl h (Below.refl _ _)).as (dUp_no (f := comS b) hg).symm)
    rw [wStep_no hg] at HS
    rw [wComE, dErr_no hg, show wComN (dab R) id b = 0 by rw [wComN, gt_dab, hg]; rfl]
    clear hg h HW
    go_enter Tryd.func23, Tryd.ntmps23
    go_wp2_with fail
    refine HS.out.mono ?_
    rintro e w1 ⟨rfl, rfl⟩
    go_wp2
    go_ret2
    exact ⟨rfl, HR.out⟩
  | some e =>
    obtain ⟨g, c, hv, _, l1, _, f1, c1, c2⟩ := h.at_ hg
    rw [hv, rwV_yes hg] at HW
    rw [wStep_yes hg] at HS
    obtain ⟨ea, en, ec, k, ser⟩ := e
    dsimp only at HS c1 c2
    have hN : wComN (dab R) id b = if mayE b k = 0 then trnN b k else 0 := by rw [wComN, gt_dab, hg]; rfl
    have hM : wComE (dab R) id b = mayE b k := by rw [wComE, dErr_yes hg]
    have no : comS b ⟨k, ser⟩ = none → DsR base w q v R (wUp (dab R) id (comS b)) w := fun h1 => (DsR.refl h (Below.refl _ _)).as (dUp_none hg h1).symm
    have ps : ∀ j, comS b ⟨k, ser⟩ = some ⟨j, ser⟩ → DsR base w q v R (wUp (dab R) id (comS b)) (w.setCell ⟨g, ix R id * 3 + 1, none⟩ (.int .i64 (j : Nat))) := fun j h1 => (h.putStep hg hv j).as (dUp_some (f := comS b) hg h1).symm
    have pb : comS b ⟨k, ser⟩ = some ⟨1, []⟩ → DsR base w q v R (wUp (dab R) id (comS b)) ((w.setCell ⟨g, ix R id * 3 + 1, none⟩ (.int .i64 1)).setCell ⟨g, ix R id * 3 + 2, none⟩ (.slice none 0 0)) := fun h1 => (h.putBoth hg (Below.refl _ _) hv 1 none 0 0 [] (Rz.nil _) (fun b hb => by simp [obk] at hb) _ (.inr (.inl rfl))).as (dUp_some (f := comS b) hg h1).symm
    rw [hN, hM]
    clear h hg hv hN hM
    obtain rfl | rfl | rfl | rfl | rfl | h5 : k = 0 ∨ k = 1 ∨ k = 2 ∨ k = 3 ∨ k = 4 ∨ 5 ≤ k := by omega
    · cases b
      · skip
        have HR := hid (no rfl)
        rw [show (if mayE false 0 = 0 then trnN false 0 else 0) = 0 from rfl, show mayE false 0 = 12 from rfl]
        clear no ps pb
        go_enter Tryd.func23, Tryd.ntmps23
        go_wp2_with fail
        refine HS.out.mono ?_
        rintro e w1 ⟨rfl, rfl⟩
        go_wp2
        go_ret2
        exact ⟨rfl, HR.out⟩
      · skip
        have HR := hid (no rfl)
        rw [show (if mayE true 0 = 0 then trnN true 0 else 0) = 0 from rfl, show mayE true 0 = 12 from rfl]
        clear no ps pb
        go_enter Tryd.func23, Tryd.ntmps23
        go_wp2_with fail
        refine HS.out.mono ?_
        rintro e w1 ⟨rfl, rfl⟩
        go_wp2
        go_ret2
        exact ⟨rfl, HR.out⟩
    · cases b
      · skip
        have HR := hid (ps 2 rfl)
        rw [show (if mayE false 1 = 0 then trnN false 1 else 0) = 1 from rfl, show mayE false 1 = 0 from rfl]
        clear no ps pb
        go_enter Tryd.func23, Tryd.ntmps23
        go_wp2_with fail
        refine HS.out.mono ?_
        rintro e w1 ⟨rfl, rfl⟩
        go_wp2_with fail
        refine HW.out.mono ?_
        rintro e w1 ⟨rfl, rfl⟩
        go_wp2
        go_ret2
        exact ⟨rfl, HR.out⟩
      · skip
        have HR := hid (no rfl)
        rw [show (if mayE true 1 = 0 then trnN true 1 else 0) = 0 from rfl, show mayE true 1 = 12 from rfl]
        clear no ps pb
        go_enter Tryd.func23, Tryd.ntmps23
        go_wp2_with fail
        refine HS.out.mono ?_
        rintro e w1 ⟨rfl, rfl⟩
        go_wp2
        go_ret2
        exact ⟨rfl, HR.out⟩
    · cases b
      · skip
        have HR := hid (no rfl)
        rw [show (if mayE false 2 = 0 then trnN false 2 else 0) = 0 from rfl, show mayE false 2 = 0 from rfl]
        clear no ps pb
        go_enter Tryd.func23, Tryd.ntmps23
        go_wp2_with fail
        refine HS.out.mono ?_
        rintro e w1 ⟨rfl, rfl⟩
        go_wp2_with fail
        refine HW.out.mono ?_
        rintro e w1 ⟨rfl, rfl⟩
        go_wp2
        go_ret2
        exact ⟨rfl, HR.out⟩
      · skip
        have HR := hid (no rfl)
        rw [show (if mayE true 2 = 0 then trnN true 2 else 0) = 0 from rfl, show mayE true 2 = 12 from rfl]
        clear no ps pb
        go_enter Tryd.func23, Tryd.ntmps23
        go_wp2_with fail
        refine HS.out.mono ?_
        rintro e w1 ⟨rfl, rfl⟩
        go_wp2
        go_ret2
        exact ⟨rfl, HR.out⟩
    · cases b
      · skip
        have HR := hid (no rfl)
        rw [show (if mayE false 3 = 0 then trnN false 3 else 0) = 0 from rfl, show mayE false 3 = 0 from rfl]
        clear no ps pb
        go_enter Tryd.func23, Tryd.ntmps23
        go_wp2_with fail
        refine HS.out.mono ?_
        rintro e w1 ⟨rfl, rfl⟩
        go_wp2_with fail
        refine HW.out.mono ?_
        rintro e w1 ⟨rfl, rfl⟩
        go_wp2
        go_ret2
        exact ⟨rfl, HR.out⟩
      · skip
        have HR := hid (ps 4 rfl)
        rw [show (if mayE true 3 = 0 then trnN true 3 else 0) = 2 from rfl, show mayE true 3 = 0 from rfl]
        clear no ps pb
        go_enter Tryd.func23, Tryd.ntmps23
        go_wp2_with fail
        refine HS.out.mono ?_
        rintro e w1 ⟨rfl, rfl⟩
        go_wp2_with fail
        refine HW.out.mono ?_
        rintro e w1 ⟨rfl, rfl⟩
        go_wp2
        go_ret2
        exact ⟨rfl, HR.out⟩
    · cases b
      · skip
        have HR := hid (pb rfl)
        rw [show (if mayE false 4 = 0 then trnN false 4 else 0) = 3 from rfl, show mayE false 4 = 0 from rfl]
        clear no ps pb
        go_enter Tryd.func23, Tryd.ntmps23
        go_wp2_with fail
        refine HS.out.mono ?_
        rintro e w1 ⟨rfl, rfl⟩
        go_wp2_with fail
        refine HW.out.mono ?_
        rintro e w1 ⟨rfl, rfl⟩
        go_wp2
        go_ret2
        exact ⟨rfl, HR.out⟩
      · skip
        have HR := hid (no rfl)
        rw [show (if mayE true 4 = 0 then trnN true 4 else 0) = 0 from rfl, show mayE true 4 = 0 from rfl]
        clear no ps pb
        go_enter Tryd.func23, Tryd.ntmps23
        go_wp2_with fail
        refine HS.out.mono ?_
        rintro e w1 ⟨rfl, rfl⟩
        go_wp2_with fail
        refine HW.out.mono ?_
        rintro e w1 ⟨rfl, rfl⟩
        go_wp2
        go_ret2
        exact ⟨rfl, HR.out⟩
    · have g0 : ¬ k = 0 := by omega
      have g1 : ¬ k = 1 := by omega
      have g2 : ¬ k < 3 := by omega
      have g3 : ¬ k = 3 := by omega
      have g4 : ¬ k = 4 := by omega
      have hm : mayE b k = 0 := by rw [mayE, if_neg g0, if_neg g2]
      have HR := hid (no (by rw [comS, if_pos hm, trnS, if_neg g1, if_neg g3, if_neg g4]))
      rw [hm, if_pos rfl, show trnN b k = 0 by rw [trnN, if_neg g1, if_neg g3, if_neg g4]]
      have e0 : decide ((k : Int) < 0) = false := decide_eq_false (by omega)
      have e1 : ((k : Int) == 0) = false := by rw [beq_eq_false_iff_ne]; omega
      have e2 : decide ((k : Int) < 3) = false := decide_eq_false (by omega)
      have e3 : ((k : Int) == 1) = false := by rw [beq_eq_false_iff_ne]; omega
      have e4 : ((k : Int) == 3) = false := by rw [beq_eq_false_iff_ne]; omega
      have e5 : ((k : Int) == 4) = false := by rw [beq_eq_false_iff_ne]; omega
      clear no ps pb g0 g1 g2 g3 g4 hm h5
      cases b
      all_goals
        go_enter Tryd.func23, Tryd.ntmps23
        go_wp2_with fail
        refine HS.out.mono ?_
        rintro e w1 ⟨rfl, rfl⟩
        go_wp2_with fail
        refine HW.out.mono ?_
        rintro e w1 ⟨rfl, rfl⟩
        go_wp2
        go_ret2
        exact ⟨rfl, HR.out⟩
end Go.Proofs.YtnlaegleekghmaaDoor
