/- The program's windows: Ack, may, turn, Commit. -/
import Derived.Test.YtnlaegleekghmaaDoorShE
import Derived.Test.YtnlaegleekghmaaDoorOrdX
namespace Go.Proofs.YtnlaegleekghmaaDoor
open Go Go.RowKit

variable {base : Nat} {w w' : World} {p m : Nat} {L : Pwl} {id : Int} {es : List Addr} {e : Pw}
set_option maxRecDepth 100000 in
theorem sack_any (hE : We w es) (h : Sh base w p m L) (id : Int) (hi : Bw id) (z : Int) (hn : ∀ e, gt L id = some e → e.n ≤ 1000000) :
    Calls Tryd.prog 20 #[.pointer (some ⟨p, 0, none⟩), .int .i64 id, .int .i64 z] w fun e w' => e = .returned (erv es (wAckE (wab L) id z)) ∧ ∃ L', ShR base w p m L (wUp (wab L) id (ackS z)) w' L' := by
  cases hg : gt L id with
  | none =>
    have HF := hid (sfind_no hE h id hi hg)
    have HR : Hid (∀ q, ShR base w p m L (wUp (wab L) id (ackS z)) (w.drewN q) L) := fun q => (ShR.refl h (below_drew1 w q)).as (wUp_no hg).symm
    rw [wAckE, wErr_no hg]
    clear hg h hE hn
    go_enter Tryd.func20, Tryd.ntmps20
    go_wp2_with fail
    refine HF.out.mono ?_
    rintro e w1 ⟨rfl, q1, rfl⟩
    rw [erw_succ]
    go_wp2
    go_ret
    exact ⟨rfl, _, HR.out _⟩
  | some e =>
    have HF := hid (sfind_yes h id hi hg)
    rw [wAckE, wErr_yes hg, ackE]
    by_cases hs : e.s.step = 0
    · have HT := hid (sistop_any (h.cs hg).1 (h.wlt hg (mem_wbk.2 (.inl rfl))).2 false (by rw [hs]; rfl))
      rw [if_pos hs]
      have c5 := hE.sta
      have l5 := World.block_lt_of_cell? _ _ c5
      have HR : Hid (ShR base w p m L (wUp (wab L) id (ackS z)) w L) := (ShR.refl h (Below.refl _ _)).as (wUp_none hg (by rw [ackS, if_pos hs])).symm
      clear hg h hE hs hn
      go_enter Tryd.func20, Tryd.ntmps20
      go_wp2_with fail
      refine HF.out.mono ?_
      rintro e' w1 ⟨rfl, rfl⟩
      go_wp2_with fail
      refine HT.out.mono ?_
      rintro e' w1 ⟨rfl, rfl⟩
      go_wp2
      go_ret
      exact ⟨rfl, _, HR.out⟩
    · have HT := hid (sistop_any (h.cs hg).1 (h.wlt hg (mem_wbk.2 (.inl rfl))).2 true (decide_eq_true (by omega)))
      rw [if_neg hs]
      have c1 := (h.cs hg).2
      have c0 := (h.cs hg).1
      have l1 := (h.wlt hg (mem_wbk.2 (.inl rfl))).2
      have f1 := h.fz hg
      have HI := hid (zindex_any e.a e.n e.c e.s.ser z w (h.row id e hg).rz)
      cases hx : zx z e.s.ser with
      | none =>
        have c5 := hE.ser
        have l5 := World.block_lt_of_cell? _ _ c5
        rw [zxI, hx] at HI
        have HR : Hid (ShR base w p m L (wUp (wab L) id (ackS z)) w L) := (ShR.refl h (Below.refl _ _)).as (wUp_none hg (by rw [ackS, if_neg hs, hx])).symm
        clear hg h hE hs hn hx
        go_enter Tryd.func20, Tryd.ntmps20
        go_wp2_with fail
        refine HF.out.mono ?_
        rintro e' w1 ⟨rfl, rfl⟩
        go_wp2_with fail
        refine HT.out.mono ?_
        rintro e' w1 ⟨rfl, rfl⟩
        go_wp2_with fail
        refine HI.out.mono ?_
        rintro e' w1 ⟨rfl, rfl⟩
        go_wp2
        go_ret
        exact ⟨rfl, _, HR.out⟩
      | some i =>
        rw [zxI, hx] at HI
        have hlen := (h.row id e hg).len
        have hil : i + 1 ≤ e.n := by have := (zx_some hx).1; omega
        have hrz := (h.row id e hg).rz
        have hnc := hrz.le
        have hn6 := hn e hg
        have hc6 := hrz.small.2
        have e0 : decide ((i : Int) < 0) = false := decide_eq_false (by omega)
        have HCa : Hid (∀ s W, (W = ((w.setCell ⟨e.g, 1, none⟩ (.slice (cutO e.a e.c (i + 1)) (e.n - (i + 1)) (e.c - (i + 1)))).setCell ⟨e.g, 0, none⟩ (.int .i64 (s : Nat))) ∨ W = w.setCell ⟨e.g, 1, none⟩ (.slice (cutO e.a e.c (i + 1)) (e.n - (i + 1)) (e.c - (i + 1))) ∧ s = e.s.step) → (if e.s.step = 2 then 3 else e.s.step) = s → ∃ L', ShR base w p m L (wUp (wab L) id (ackS z)) W L') := fun s W hW hs2 =>
          ⟨_, (h.putCut hg (Below.refl _ _) (i + 1) hil s W hW).as (wUp_some (f := ackS z) hg (by rw [ackS, if_neg hs, hx, ← hs2])).symm⟩
        have HC1 : Hid (e.c = i + 1 → cutO e.a e.c (i + 1) = e.a ∧ e.c - (i + 1) = 0) := fun h => ⟨if_pos h, by omega⟩
        have HC2 : Hid (¬ e.c = i + 1 → cutO e.a e.c (i + 1) = e.a.map fun x => x.add (i + 1)) := fun h => if_neg h
        simp only [Option.isSome_some, if_true]
        cases e2 : (((e.s.step : Nat) : Int) == 2)
        · have HR := hid (HCa.out e.s.step _ (.inr ⟨rfl, rfl⟩) (if_neg (fun h => by rw [h] at e2; cases e2)))
          clear hg h hE hs hn hx hrz hlen HCa
          go_enter Tryd.func20, Tryd.ntmps20
          go_wp2_with fail
          refine HF.out.mono ?_
          rintro e' w1 ⟨rfl, rfl⟩
          go_wp2_with fail
          refine HT.out.mono ?_
          rintro e' w1 ⟨rfl, rfl⟩
          go_wp2_with fail
          refine HI.out.mono ?_
          rintro e' w1 ⟨rfl, rfl⟩
          go_wp2
          · have hc := h
            rw [(HC1.out hc).1, (HC1.out hc).2] at HR
            go_ret
            exact ⟨rfl, HR.out⟩
          · have hc := h
            rw [HC2.out hc] at HR
            go_ret
            exact ⟨rfl, HR.out⟩
        · have HR := hid (HCa.out 3 _ (.inl rfl) (if_pos (by have := beq_iff_eq.1 e2; omega)))
          clear hg h hE hs hn hx hrz hlen HCa
          go_enter Tryd.func20, Tryd.ntmps20
          go_wp2_with fail
          refine HF.out.mono ?_
          rintro e' w1 ⟨rfl, rfl⟩
          go_wp2_with fail
          refine HT.out.mono ?_
          rintro e' w1 ⟨rfl, rfl⟩
          go_wp2_with fail
          refine HI.out.mono ?_
          rintro e' w1 ⟨rfl, rfl⟩
          go_wp2
          · have hc := h
            rw [(HC1.out hc).1, (HC1.out hc).2] at HR
            go_ret
            exact ⟨rfl, HR.out⟩
          · have hc := h
            rw [HC2.out hc] at HR
            go_ret
            exact ⟨rfl, HR.out⟩

set_option maxRecDepth 100000 in
theorem smay_any (hE : We w es) {g k : Nat} (hc : w.cell? ⟨g, 0, none⟩ = some (.int .i64 k)) (b : Bool) :
    Calls Tryd.prog 38 #[.pointer (some ⟨g, 0, none⟩), .bool b] w fun e w' => e = .returned (erv es (mayE b k)) ∧ w' = w := by
  have c5 := hE.sta
  have l5 := World.block_lt_of_cell? _ _ c5
  have l0 := World.block_lt_of_cell? _ _ hc
  clear hE
  by_cases h0 : k = 0
  · subst h0
    rw [show mayE b 0 = 12 from rfl]
    go_enter Tryd.func38, Tryd.ntmps38
    go_wp2
    go_ret
    exact ⟨rfl, rfl⟩
  · by_cases h3 : k < 3
    · rw [mayE, if_neg h0, if_pos h3]
      have e1 : k = 1 ∨ k = 2 := by omega
      rcases e1 with rfl | rfl
      all_goals
        cases b
        all_goals
          go_enter Tryd.func38, Tryd.ntmps38
          go_wp2
          go_ret
          exact ⟨rfl, rfl⟩
    · rw [mayE, if_neg h0, if_neg h3]
      have e0 : ((k : Int) == 0) = false := by simp; omega
      have e1 : ((k : Int) == 1) = false := by simp; omega
      have e2 : ((k : Int) == 2) = false := by simp; omega
      clear h0 h3
      go_enter Tryd.func38, Tryd.ntmps38
      go_wp2
      go_ret
      exact ⟨rfl, rfl⟩
/-- What turn does to a window's block. -/
def trnW (b : Bool) (k g : Nat) (w : World) : World := if k = 1 then w.setCell ⟨g, 0, none⟩ (.int .i64 2) else if k = 3 then (bif b then w.setCell ⟨g, 0, none⟩ (.int .i64 4) else w) else if k = 4 then (bif b then w else (w.setCell ⟨g, 0, none⟩ (.int .i64 1)).setCell ⟨g, 1, none⟩ (.slice none 0 0)) else w
set_option maxRecDepth 100000 in
theorem sturn_any {g k : Nat} {a : Option Addr} {n c : Nat} (hc : w.cell? ⟨g, 0, none⟩ = some (.int .i64 k)) (hc1 : w.cell? ⟨g, 1, none⟩ = some (.slice a n c)) (hf : ∀ j, w.frozen? ⟨g, j, none⟩ = false) (b : Bool) :
    Calls Tryd.prog 39 #[.pointer (some ⟨g, 0, none⟩), .bool b] w fun e w' => e = .returned (.int .i64 (trnN b k : Nat)) ∧ w' = trnW b k g w := by
  have l0 := World.block_lt_of_cell? _ _ hc
  have HB := hid (sback_any (k := 1) hc hc1 l0 hf)
  by_cases h1 : k = 1
  · subst h1
    rw [show trnW b 1 g w = w.setCell ⟨g, 0, none⟩ (.int .i64 2) from rfl, show trnN b 1 = 1 from rfl]
    go_enter Tryd.func39, Tryd.ntmps39
    go_wp2
    go_ret
    exact ⟨rfl, rfl⟩
  · have e1 : ((k : Int) == 1) = false := by simp; omega
    by_cases h3 : k = 3
    · subst h3
      cases b
      · rw [show trnW false 3 g w = w from rfl, show trnN false 3 = 0 from rfl]
        go_enter Tryd.func39, Tryd.ntmps39
        go_wp2
        go_ret
        exact ⟨rfl, rfl⟩
      · rw [show trnW true 3 g w = w.setCell ⟨g, 0, none⟩ (.int .i64 4) from rfl, show trnN true 3 = 2 from rfl]
        go_enter Tryd.func39, Tryd.ntmps39
        go_wp2
        go_ret
        exact ⟨rfl, rfl⟩
    · by_cases h4 : k = 4
      · subst h4
        cases b
        · rw [show trnW false 4 g w = (w.setCell ⟨g, 0, none⟩ (.int .i64 1)).setCell ⟨g, 1, none⟩ (.slice none 0 0) from rfl, show trnN false 4 = 3 from rfl]
          go_enter Tryd.func39, Tryd.ntmps39
          go_wp2_with fail
          refine HB.out.mono ?_
          rintro e w1 ⟨rfl, rfl⟩
          go_wp2
          go_ret
          exact ⟨rfl, rfl⟩
        · rw [show trnW true 4 g w = w from rfl, show trnN true 4 = 0 from rfl]
          go_enter Tryd.func39, Tryd.ntmps39
          go_wp2
          go_ret
          exact ⟨rfl, rfl⟩
      · have e3 : ((k : Int) == 3) = false := by simp; omega
        have e4 : ((k : Int) == 4) = false := by simp; omega
        rw [show trnW b k g w = w by rw [trnW, if_neg h1, if_neg h3, if_neg h4], show trnN b k = 0 by rw [trnN, if_neg h1, if_neg h3, if_neg h4]]
        clear h1 h3 h4
        go_enter Tryd.func39, Tryd.ntmps39
        go_wp2
        go_ret
        exact ⟨rfl, rfl⟩
theorem Sh.trn (h : Sh base w p m L) (hg : gt L id = some e) (b : Bool) (hm : mayE b e.s.step = 0) : ∃ L', ShR base w p m L (wUp (wab L) id (comS b)) (trnW b e.s.step e.g w) L' := by
  have hc : comS b e.s = trnS b e.s := by rw [comS, if_pos hm]
  have no : trnS b e.s = none → trnW b e.s.step e.g w = w → ∃ L', ShR base w p m L (wUp (wab L) id (comS b)) (trnW b e.s.step e.g w) L' := fun h1 h2 => by
    rw [h2]
    exact ⟨_, (ShR.refl h (Below.refl _ _)).as (wUp_none hg (by rw [hc, h1])).symm⟩
  by_cases h1 : e.s.step = 1
  · rw [show trnW b e.s.step e.g w = w.setCell ⟨e.g, 0, none⟩ (.int .i64 2) by rw [trnW, if_pos h1]]
    exact ⟨_, (h.putStep hg (Below.refl _ _) 2).as (wUp_some hg (by rw [hc, trnS, if_pos h1])).symm⟩
  · by_cases h3 : e.s.step = 3
    · cases b
      · exact no (by rw [trnS, if_neg h1, if_pos h3]; rfl) (by rw [trnW, if_neg h1, if_pos h3]; rfl)
      · rw [show trnW true e.s.step e.g w = w.setCell ⟨e.g, 0, none⟩ (.int .i64 4) by rw [trnW, if_neg h1, if_pos h3]; rfl]
        exact ⟨_, (h.putStep hg (Below.refl _ _) 4).as (wUp_some hg (by rw [hc, trnS, if_neg h1, if_pos h3]; rfl)).symm⟩
    · by_cases h4 : e.s.step = 4
      · cases b
        · rw [show trnW false e.s.step e.g w = (w.setCell ⟨e.g, 0, none⟩ (.int .i64 1)).setCell ⟨e.g, 1, none⟩ (.slice none 0 0) by rw [trnW, if_neg h1, if_neg h3, if_pos h4]; rfl]
          exact ⟨_, (h.putBoth hg (Below.refl _ _) 1).as (wUp_some hg (by rw [hc, trnS, if_neg h1, if_neg h3, if_pos h4]; rfl)).symm⟩
        · exact no (by rw [trnS, if_neg h1, if_neg h3, if_pos h4]; rfl) (by rw [trnW, if_neg h1, if_neg h3, if_pos h4]; rfl)
      · exact no (by rw [trnS, if_neg h1, if_neg h3, if_neg h4]) (by rw [trnW, if_neg h1, if_neg h3, if_neg h4])
theorem mayE_two (b : Bool) (k : Nat) : mayE b k = 0 ∨ mayE b k = 12 := by
  unfold mayE
  split
  · exact .inr rfl
  · split
    · cases b
      · exact .inl rfl
      · exact .inr rfl
    · exact .inl rfl
set_option maxRecDepth 100000 in
theorem scommit_any (hE : We w es) (h : Sh base w p m L) (id : Int) (hi : Bw id) (t b : Bool) :
    Calls Tryd.prog 22 #[.pointer (some ⟨p, 0, none⟩), .int .i64 id, .bool t, .bool b] w fun e w' => e = .returned (.tuple #[.int .i64 (wComN (wab L) id b : Nat), erv es (wComE (wab L) id b)]) ∧ ∃ L', ShR base w p m L (wUp (wab L) id (comS b)) w' L' := by
  cases hg : gt L id with
  | none =>
    have HF := hid (sfind_no hE h id hi hg)
    have HR : Hid (∀ q, ShR base w p m L (wUp (wab L) id (comS b)) (w.drewN q) L) := fun q => (ShR.refl h (below_drew1 w q)).as (wUp_no hg).symm
    rw [wComE, wErr_no hg, show wComN (wab L) id b = 0 by rw [wComN, gt_wab, hg]; rfl]
    clear hg h hE
    go_enter Tryd.func22, Tryd.ntmps22
    go_wp2_with fail
    refine HF.out.mono ?_
    rintro e w1 ⟨rfl, q1, rfl⟩
    rw [erw_succ]
    go_wp2
    go_ret2
    exact ⟨rfl, _, HR.out _⟩
  | some e =>
    have HF := hid (sfind_yes h id hi hg)
    have HM := hid (smay_any hE (h.cs hg).1 b)
    rcases mayE_two b e.s.step with hm | hm
    · have HT := hid (sturn_any (h.cs hg).1 (h.cs hg).2 (h.fz hg) b)
      have HR := hid (h.trn hg b hm)
      rw [wComE, wErr_yes hg, show wComN (wab L) id b = trnN b e.s.step by rw [wComN, gt_wab, hg]; simp only [Option.map_some, hm, if_true]]
      rw [hm] at HM
      rw [hm]
      clear hg h hE hm
      rw [erw0] at HM
      go_enter Tryd.func22, Tryd.ntmps22
      go_wp2_with fail
      refine HF.out.mono ?_
      rintro e' w1 ⟨rfl, rfl⟩
      go_wp2_with fail
      refine HM.out.mono ?_
      rintro e' w1 ⟨rfl, rfl⟩
      go_wp2_with fail
      refine HT.out.mono ?_
      rintro e' w2 ⟨rfl, rfl⟩
      go_wp2
      go_ret2
      exact ⟨rfl, HR.out⟩
    · have HR : Hid (ShR base w p m L (wUp (wab L) id (comS b)) w L) := (ShR.refl h (Below.refl _ _)).as (wUp_none hg (by rw [comS, if_neg (by omega)])).symm
      rw [wComE, wErr_yes hg, show wComN (wab L) id b = 0 by rw [wComN, gt_wab, hg]; simp only [Option.map_some]; rw [if_neg (by omega)]]
      rw [hm] at HM
      rw [hm]
      clear hg h hE hm
      rw [erw_succ] at HM
      go_enter Tryd.func22, Tryd.ntmps22
      go_wp2_with fail
      refine HF.out.mono ?_
      rintro e' w1 ⟨rfl, rfl⟩
      go_wp2_with fail
      refine HM.out.mono ?_
      rintro e' w1 ⟨rfl, rfl⟩
      go_wp2
      go_ret2
      exact ⟨rfl, _, HR.out⟩
end Go.Proofs.YtnlaegleekghmaaDoor
