/- The program's windows: Add, Drop, Top, Untop, Send. -/
import Derived.Test.YtnlaegleekghmaaDoorShD
namespace Go.Proofs.YtnlaegleekghmaaDoor
open Go Go.RowKit

variable {base : Nat} {w w' : World} {p m : Nat} {L : Pwl} {id : Int} {es : List Addr} {e : Pw}
set_option maxRecDepth 100000 in
theorem sadd_any (hE : We w es) (h : Sh base w p m L) (hl : L.length ≤ 1000000) (id : Int) (hi : Bw id) (b : Bool) :
    Calls Tryd.prog 10 #[.pointer (some ⟨p, 0, none⟩), .int .i64 id, .bool b] w fun e w' => e = .returned (erv es (wAddE (wab L) id b)) ∧ ∃ L', ShR base w p m L (wAddF (wab L) id b) w' L' := by
  have HH := hid (shas_any h id hi)
  cases hg : gt L id with
  | some e =>
    have c5 := hE.rol
    have l5 := World.block_lt_of_cell? _ _ c5
    have HR : Hid (ShR base w p m L (wAddF (wab L) id b) w L) := (ShR.refl h (Below.refl _ _)).as (by rw [wAddF, gt_wab, hg]; rfl)
    rw [show wAddE (wab L) id b = 10 by rw [wAddE, gt_wab, hg]; rfl]
    rw [show wHas (wab L) id = true by rw [wHas, gt_wab, hg]; rfl] at HH
    clear hg h hE
    go_enter Tryd.func10, Tryd.ntmps10
    go_wp2_with fail
    refine HH.out.mono ?_
    rintro e w1 ⟨rfl, rfl⟩
    go_wp2
    go_ret
    exact ⟨rfl, _, HR.out⟩
  | none =>
    rw [show wHas (wab L) id = false by rw [wHas, gt_wab, hg]; rfl] at HH
    cases b with
    | true =>
      have c5 := hE.sta
      have l5 := World.block_lt_of_cell? _ _ c5
      have HR : Hid (ShR base w p m L (wAddF (wab L) id true) w L) := (ShR.refl h (Below.refl _ _)).as (by rw [wAddF, gt_wab, hg]; rfl)
      rw [show wAddE (wab L) id true = 12 by rw [wAddE, gt_wab, hg]; rfl]
      clear hg h hE
      go_enter Tryd.func10, Tryd.ntmps10
      go_wp2_with fail
      refine HH.out.mono ?_
      rintro e w1 ⟨rfl, rfl⟩
      go_wp2
      go_ret
      exact ⟨rfl, _, HR.out⟩
    | false =>
      rw [show wAddE (wab L) id false = 0 by rw [wAddE, gt_wab, hg]; rfl]
      obtain ⟨D, ho, hR⟩ := h.own
      have hb : Below w.heap.size w (w.alloc (.cells #[.int .i64 0, .slice none 0 0] 64)) := (Below.refl _ _).alloc (Nat.le_refl _) _
      have HO := hid (ho.alloc (.cells #[.int .i64 0, .slice none 0 0] 64))
      have HN : Hid (∀ u, u.ownsMap Tryd.prog 3 pwR m (L.length + 1) (D.put (.int .i64 id) (pwd (some w.heap.size))) → (w.alloc (.cells #[.int .i64 0, .slice none 0 0] 64)).mapTurned u m → ∃ L', ShR base w p m L (wAddF (wab L) id false) u L') := fun u hu ht =>
        ⟨_, (h.add hg hb (Nat.le_refl _) (heap_alloc_new w _) hR hu ho.isMap ht).as (by rw [wAddF, gt_wab, hg]; rfl)⟩
      have HK := hid (kBw id hi)
      have c0 := h.c0
      have l0 := h.lt.1
      clear hg h hE ho hR hb
      go_enter Tryd.func10, Tryd.ntmps10
      go_wp2_with fail
      refine HH.out.mono ?_
      rintro e w1 ⟨rfl, rfl⟩
      go_wp2_with (refine wpList_mapUpdate_in _ rfl (.tmp 16) (.tmp 17) (.tmp 19) 57 rfl 3 62 (Maps.int_keyed Tryd.underlying3) Tryd.underlying57 pwR m _ D rfl HO.out (by simp only [maxLen]; omega) _ _ _ rfl rfl HK.out _ _ (pwR_mk (some _)) ?_; intro w2 o2 t2; have HA := hid (HN.out _ o2 t2); clear o2 t2)
      go_ret
      exact ⟨rfl, HA.out⟩
set_option maxRecDepth 100000 in
theorem sdrop_any (hE : We w es) (h : Sh base w p m L) (id : Int) (hi : Bw id) :
    Calls Tryd.prog 12 #[.pointer (some ⟨p, 0, none⟩), .int .i64 id] w fun e w' => e = .returned (erv es (wDrpE (wab L) id)) ∧ ∃ L', ShR base w p m L (wDrpF (wab L) id) w' L' := by
  cases hg : gt L id with
  | none =>
    have HF := hid (sfind_no hE h id hi hg)
    have HR : Hid (∀ q, ShR base w p m L (wDrpF (wab L) id) (w.drewN q) L) := fun q => (ShR.refl h (below_drew1 w q)).as (by rw [wDrpF, gt_wab, hg]; rfl)
    rw [wDrpE, wErr_no hg]
    clear hg h hE
    go_enter Tryd.func12, Tryd.ntmps12
    go_wp2_with fail
    refine HF.out.mono ?_
    rintro e w1 ⟨rfl, q1, rfl⟩
    rw [erw_succ]
    go_wp2
    go_ret
    exact ⟨rfl, _, HR.out _⟩
  | some e =>
    have HF := hid (sfind_yes h id hi hg)
    rw [wDrpE, wErr_yes hg]
    by_cases hs : e.s.step = 0
    · have HT := hid (sistop_any (h.cs hg).1 (h.wlt hg (mem_wbk.2 (.inl rfl))).2 false (by rw [hs]; rfl))
      rw [if_pos hs]
      obtain ⟨D, ho, hR⟩ := h.own
      have HO := hid ho
      have HN : Hid (∀ u, u.ownsMap Tryd.prog 3 pwR m L.length (D.del (.int .i64 id)) → w.mapTurned u m → ∃ L', ShR base w p m L (wDrpF (wab L) id) u L') := fun u hu ht =>
        ⟨_, (h.drop (Below.refl _ _) hR hu ht).as (by rw [wDrpF, gt_wab, hg]; simp only [Option.map_some, hs, if_true])⟩
      have HK := hid (kBw id hi)
      have c0 := h.c0
      have l0 := h.lt.1
      clear hg h hE ho hR hs
      go_enter Tryd.func12, Tryd.ntmps12
      go_wp2_with fail
      refine HF.out.mono ?_
      rintro e' w1 ⟨rfl, rfl⟩
      go_wp2_with fail
      refine HT.out.mono ?_
      rintro e' w1 ⟨rfl, rfl⟩
      go_wp2_with (at_delete; refine wpList_delete_own _ rfl (.tmp 22) (.tmp 23) 57 3 rfl 62 (Maps.int_keyed Tryd.underlying3) Tryd.underlying57 pwR m _ D rfl HO.out _ _ rfl HK.out ?_; intro w2 o2 t2; have HA := hid (HN.out _ o2 t2); clear o2 t2)
      go_ret
      exact ⟨rfl, HA.out⟩
    · have HT := hid (sistop_any (h.cs hg).1 (h.wlt hg (mem_wbk.2 (.inl rfl))).2 true (decide_eq_true (by omega)))
      rw [if_neg hs]
      have c5 := hE.sta
      have l5 := World.block_lt_of_cell? _ _ c5
      have HR : Hid (ShR base w p m L (wDrpF (wab L) id) w L) := (ShR.refl h (Below.refl _ _)).as (by rw [wDrpF, gt_wab, hg]; simp only [Option.map_some, hs, if_false])
      clear hg h hE hs
      go_enter Tryd.func12, Tryd.ntmps12
      go_wp2_with fail
      refine HF.out.mono ?_
      rintro e' w1 ⟨rfl, rfl⟩
      go_wp2_with fail
      refine HT.out.mono ?_
      rintro e' w1 ⟨rfl, rfl⟩
      go_wp2
      go_ret
      exact ⟨rfl, _, HR.out⟩
set_option maxRecDepth 100000 in
theorem smktop_any (hE : We w es) (h : Sh base w p m L) (id : Int) (hi : Bw id) :
    Calls Tryd.prog 14 #[.pointer (some ⟨p, 0, none⟩), .int .i64 id] w fun e w' => e = .returned (erv es (wTopE (wab L) id)) ∧ ∃ L', ShR base w p m L (wUp (wab L) id topS) w' L' := by
  cases hg : gt L id with
  | none =>
    have HF := hid (sfind_no hE h id hi hg)
    have HR : Hid (∀ q, ShR base w p m L (wUp (wab L) id topS) (w.drewN q) L) := fun q => (ShR.refl h (below_drew1 w q)).as (wUp_no hg).symm
    rw [wTopE, wErr_no hg]
    clear hg h hE
    go_enter Tryd.func14, Tryd.ntmps14
    go_wp2_with fail
    refine HF.out.mono ?_
    rintro e w1 ⟨rfl, q1, rfl⟩
    rw [erw_succ]
    go_wp2
    go_ret
    exact ⟨rfl, _, HR.out _⟩
  | some e =>
    have HF := hid (sfind_yes h id hi hg)
    rw [wTopE, wErr_yes hg]
    by_cases hs : e.s.step = 0
    · have HT := hid (sistop_any (h.cs hg).1 (h.wlt hg (mem_wbk.2 (.inl rfl))).2 false (by rw [hs]; rfl))
      rw [if_pos hs]
      have HR : Hid (ShR base w p m L (wUp (wab L) id topS) (w.setCell ⟨e.g, 0, none⟩ (.int .i64 1)) _) := (h.putStep hg (Below.refl _ _) 1).as (wUp_some hg (by rw [topS, if_pos hs])).symm
      have c0 := (h.cs hg).1
      have l0 := (h.wlt hg (mem_wbk.2 (.inl rfl))).2
      have f0 := h.fz hg
      clear hg h hE hs
      go_enter Tryd.func14, Tryd.ntmps14
      go_wp2_with fail
      refine HF.out.mono ?_
      rintro e' w1 ⟨rfl, rfl⟩
      go_wp2_with fail
      refine HT.out.mono ?_
      rintro e' w1 ⟨rfl, rfl⟩
      go_wp2
      go_ret
      exact ⟨rfl, _, HR.out⟩
    · have HT := hid (sistop_any (h.cs hg).1 (h.wlt hg (mem_wbk.2 (.inl rfl))).2 true (decide_eq_true (by omega)))
      rw [if_neg hs]
      have c5 := hE.rol
      have l5 := World.block_lt_of_cell? _ _ c5
      have HR : Hid (ShR base w p m L (wUp (wab L) id topS) w L) := (ShR.refl h (Below.refl _ _)).as (wUp_none hg (by rw [topS, if_neg hs])).symm
      clear hg h hE hs
      go_enter Tryd.func14, Tryd.ntmps14
      go_wp2_with fail
      refine HF.out.mono ?_
      rintro e' w1 ⟨rfl, rfl⟩
      go_wp2_with fail
      refine HT.out.mono ?_
      rintro e' w1 ⟨rfl, rfl⟩
      go_wp2
      go_ret
      exact ⟨rfl, _, HR.out⟩
/-- No toplevel: nothing turns. -/
theorem wUn_no {f : Wn → Option Wn} (hf : ∀ x : Wn, x.step = 0 → f x = none) (hq : ∀ e, gt L id = some e → e.s.step = 0) : wUp (wab L) id f = wab L := by
  cases hg : gt L id with
  | none => exact wUp_no hg
  | some e => exact wUp_none hg (hf _ (hq e hg))
theorem wUntE_no (hq : ∀ e, gt L id = some e → e.s.step = 0) : wUntE (wab L) id = 5 := by
  cases hg : gt L id with
  | none => exact wErr_no hg
  | some e => rw [wUntE, wErr_yes hg, if_pos (hq e hg)]
theorem wUntE_yes (hg : gt L id = some e) (hs : e.s.step ≠ 0) : wUntE (wab L) id = 0 := by rw [wUntE, wErr_yes hg, if_neg hs]
set_option maxRecDepth 100000 in
theorem suntop_any (hE : We w es) (h : Sh base w p m L) (id : Int) (hi : Bw id) :
    Calls Tryd.prog 16 #[.pointer (some ⟨p, 0, none⟩), .int .i64 id] w fun e w' => e = .returned (erv es (wUntE (wab L) id)) ∧ ∃ L', ShR base w p m L (wUp (wab L) id untS) w' L' := by
  by_cases hq : ∀ e, gt L id = some e → e.s.step = 0
  · have HF := hid (sfindTop_no hE h id hi hq)
    have HR : Hid (∀ q, ShR base w p m L (wUp (wab L) id untS) (w.drewN q) L) := fun q => (ShR.refl h (below_drew1 w q)).as (wUn_no (fun x hx => by rw [untS, if_pos hx]) hq).symm
    rw [wUntE_no hq]
    clear hq h hE
    go_enter Tryd.func16, Tryd.ntmps16
    go_wp2_with fail
    refine HF.out.mono ?_
    rintro e w1 ⟨rfl, q1, rfl⟩
    rw [erw_succ]
    go_wp2
    go_ret
    exact ⟨rfl, _, HR.out _⟩
  · obtain ⟨e, hq⟩ := Classical.not_forall.1 hq
    obtain ⟨hg, hs⟩ := Classical.not_imp.1 hq
    have HF := hid (sfindTop_yes h id hi hg hs)
    rw [wUntE_yes hg hs]
    have HB := hid (sback_any (k := 0) (h.cs hg).1 (h.cs hg).2 (h.wlt hg (mem_wbk.2 (.inl rfl))).2 (h.fz hg))
    have HR := hid ((h.putBoth hg (Below.refl _ _) 0).as (wUp_some (f := untS) hg (by rw [untS, if_neg hs])).symm)
    clear hq h hE hg hs
    go_enter Tryd.func16, Tryd.ntmps16
    go_wp2_with fail
    refine HF.out.mono ?_
    rintro e w1 ⟨rfl, rfl⟩
    go_wp2_with fail
    refine HB.out.mono ?_
    rintro e w1 ⟨rfl, rfl⟩
    go_wp2
    go_ret
    exact ⟨rfl, _, HR.out⟩
set_option maxRecDepth 100000 in
theorem ssend_any (hE : We w es) (h : Sh base w p m L) (id : Int) (hi : Bw id) (z : Int) (hn : ∀ e, gt L id = some e → e.n ≤ 1000000) :
    Calls Tryd.prog 18 #[.pointer (some ⟨p, 0, none⟩), .int .i64 id, .int .i64 z] w fun e w' => e = .returned (erv es (wUntE (wab L) id)) ∧ ∃ L', ShR base w p m L (wUp (wab L) id (sndS z)) w' L' := by
  by_cases hq : ∀ e, gt L id = some e → e.s.step = 0
  · have HF := hid (sfindTop_no hE h id hi hq)
    have HR : Hid (∀ q, ShR base w p m L (wUp (wab L) id (sndS z)) (w.drewN q) L) := fun q => (ShR.refl h (below_drew1 w q)).as (wUn_no (fun x hx => by rw [sndS, if_pos hx]) hq).symm
    rw [wUntE_no hq]
    clear hq h hE hn
    go_enter Tryd.func18, Tryd.ntmps18
    go_wp2_with fail
    refine HF.out.mono ?_
    rintro e w1 ⟨rfl, q1, rfl⟩
    rw [erw_succ]
    go_wp2
    go_ret
    exact ⟨rfl, _, HR.out _⟩
  · obtain ⟨e, hq⟩ := Classical.not_forall.1 hq
    obtain ⟨hg, hs⟩ := Classical.not_imp.1 hq
    have HF := hid (sfindTop_yes h id hi hg hs)
    rw [wUntE_yes hg hs]
    obtain ⟨i0, hi0, hz0, hz1, hz2⟩ := infoZp
    have hb : Below w.heap.size w (w.alloc (.cells #[.int .i64 z] 3)) := (Below.refl _ _).alloc (Nat.le_refl _) _
    have HO : Hid (Oz base (w.alloc (.cells #[.int .i64 z] 3)) e.a e.n e.c e.s.ser) := (h.on hb).row id e hg
    have HBA : Hid (base ≤ (w.alloc (.cells #[.int .i64 z] 3)).heap.size) := Nat.le_trans h.lop (Nat.le_trans (Nat.le_of_lt h.lt.1) hb.size)
    have HX : Hid (Src Tryd.prog 1 47 (.slice (some ⟨w.heap.size, 0, none⟩) 1 1) 1 [.int .i64 z] (w.alloc (.cells #[.int .i64 z] 3))) := by
      refine Src.ofSlice _ Tryd.underlying47 _ 1 1 [.int .i64 z] rfl (fun j u hu => ?_) (by simp [Value.oneCell'])
      have hj := (List.getElem?_eq_some_iff.1 hu).1
      simp only [List.length_cons, List.length_nil, Nat.zero_add, Nat.lt_one_iff] at hj
      subst hj
      simp only [List.getElem?_cons_zero, Option.some.injEq] at hu
      rw [Go.WideShapes.add_plain, World.cell?_alloc_at _ _ _ _ rfl, ← hu]
      rfl
    have HP : Hid (∀ (a' : Option Addr) (c' : Nat) (w1 : World), Oz base w1 a' (e.n + 1) c' (e.s.ser ++ [z]) → Kp (obk e.a) (w.alloc (.cells #[.int .i64 z] 3)) w1 → (∀ b ∈ obk a', b ∈ obk e.a ∨ (w.alloc (.cells #[.int .i64 z] 3)).heap.size ≤ b) →
        w1.cell? ⟨e.g, 1, none⟩ = some (.slice e.a e.n e.c) ∧ e.g < w1.heap.size ∧ (∀ j, w1.frozen? ⟨e.g, j, none⟩ = false) ∧ ∃ L', ShR base w p m L (wUp (wab L) id (sndS z)) (w1.setCell ⟨e.g, 1, none⟩ (.slice a' (e.n + 1) c')) L') := fun a' c' w1 h1 h2 h3 => by
      have hge := (h.sep id e hg).2.1
      have hv := h2.var ((h.on hb).win id e hg) hge
      refine ⟨by rw [Lib.cell_of_heap hv]; rfl, (Array.getElem?_eq_some_iff.1 hv).1, fun j => Lib.frozen_of_heap hv j, _, (h.putSer hg hb h1 h2 (fun b hb' => (h3 b hb').imp (fun h => h) (fun h' => Nat.le_trans hb.size h'))).as (wUp_some (f := sndS z) hg (by rw [sndS, if_neg hs])).symm⟩
    have HN := hid (hn e hg)
    have c1 := (h.cs hg).2
    have l1 := (h.wlt hg (mem_wbk.2 (.inl rfl))).2
    clear hq h hE hg hs hn hb
    go_enter Tryd.func18, Tryd.ntmps18
    go_wp2_with fail
    refine HF.out.mono ?_
    rintro e' w1 ⟨rfl, rfl⟩
    go_wp2_with (at_builtin; refine wpList_append_oz rfl (.tmp 22) (.tmp 24) 47 rfl i0 Tryd.underlying47 hi0 hz0 hz1 hz2 rfl HO.out HN.out HBA.out _ z rfl HX.out ?_; intro a' c' w1 o1 k1 n1; obtain ⟨c2, l2, f2, hR⟩ := HP.out a' c' w1 o1 k1 n1; have HR := hid hR; clear o1 k1 n1 hR)
    go_ret
    exact ⟨rfl, HR.out⟩
end Go.Proofs.YtnlaegleekghmaaDoor
