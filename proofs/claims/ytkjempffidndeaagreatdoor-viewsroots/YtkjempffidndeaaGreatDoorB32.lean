/- Lemmas that the proof leans on. -/
import Derived.Test.YtkjempffidndeaaGreatDoorB31
namespace Go.Proofs.YtkjempffidndeaaGreatDoor
open Go Go.RowKit
set_option maxRecDepth 100000
set_option maxHeartbeats 4000000
section
variable {base : Nat} {X : List Nat} {w : World} {q : Nat} {v : Value} {L : Ro}
theorem infoSr : (Tryz.prog.info? 78).map (fun i => (i.zero, i.size, i.bytes)) = some (some (.agg (scs (0, ⟨0, false, sx0, sx0, sx0⟩)).toArray), 33, 480) := by kernel_rfl
theorem fitsR {need : Nat} (h : need ≤ 1000) : ∀ old, old < need → Builtin.nextslicecap need old * 480 ≤ 281474976710656 := fun old ho => by
 have := nextslicecap_near ho
 omega
theorem Df.src (h : Df base X w q v L) : Src Tryz.prog 33 50 v L.length (rcs L) w := by
 rcases h.row.2 with ⟨hv, h0⟩ | ⟨g, cap, cur, hv, _, _, _, _, _, _⟩
 ·rw [hv, h0]
  have := List.eq_nil_of_length_eq_zero h0
  rw [this]
  exact Src.ofNil w Tryz.underlying50 0
 ·have hr := h.row
  rw [hv] at hr ⊢
  refine Src.ofSlice w Tryz.underlying50 ⟨g, 0, none⟩ L.length cap (rcs L) (rcs_length L) (fun j u hu => ?_) (rcs_one L)
  have hj := (List.getElem?_eq_some_iff.1 hu).1
  rw [rcs_length] at hj
  rw [Go.WideShapes.add_plain, Nat.zero_add, hr.cellAt j hj]
  exact hu
theorem srcS (w : World) (e : Int × Sr) : Src Tryz.prog 33 50 (.slice (some ⟨w.heap.size, 0, none⟩) 1 1) 1 (rcs [e]) (w.alloc (.cells (scs e).toArray 78)) := by
 have hr : rcs [e] = scs e := by rw [rcs_cons, rcs_nil, List.append_nil]
 rw [hr]
 refine Src.ofSlice (P := Tryz.prog) _ Tryz.underlying50 ⟨w.heap.size, 0, none⟩ 1 1 (scs e) rfl (fun j u hu => ?_) (by rw [← hr]; exact rcs_one _)
 rw [Go.WideShapes.add_plain, Nat.zero_add, cell_of_row _ _ j _ _ _ (heap_alloc_new w _), List.getElem?_toArray]
 exact hu
theorem row_form {w : World} {b e m n : Nat} {v : Value} {xs : List Value} (h : w.ownsRow b e m v n xs) : ∃ a c, v = .slice a n c := by
 rcases h.2 with ⟨rfl, rfl⟩ | ⟨g, cap, cur, rfl, _⟩
 ·exact ⟨none, 0, rfl⟩
 ·exact ⟨_, _, rfl⟩
def RfN (base : Nat) (X : List Nat) (w : World) (q : Nat) (v : Value) (k : Nat) (F : Fo) (e : Ending) (w' : World) : Prop := e = .returned (.int .i64 (k : Nat)) ∧ ∃ v' L', Df base X w' q v' L' ∧ abs L' = F ∧ Kp (q :: v.ownBlock.toList) w w' ∧ (v'.ownBlock = v.ownBlock ∨ ∀ g, v'.ownBlock = some g → w.heap.size ≤ g)
theorem off_olds {s : Sr} {u : World} {P : Nat} (h : s.Ok u) (hP : u.heap.size ≤ P) : s.Off P := ⟨off_old h.pe hP, off_old h.ca hP, off_old h.no hP⟩
theorem Df.row' {u : World} {v' : Value} {L' : Ro} (h : Df base X w q v L) (hb : Below w.heap.size w u) (hB : base ≤ w.heap.size) (hr : u.ownsRow w.heap.size 78 33 v' L'.length (rcs L')) (ok : ∀ e ∈ L', e.2.Ok u) (off : ∀ e ∈ L', ∀ P ∈ q :: (v'.ownBlock.toList ++ X), e.2.Off P) :
  Df base X (u.setCell ⟨q, 0, none⟩ v') q v' L' ∧ Kp [q] u (u.setCell ⟨q, 0, none⟩ v') := by
 have hq := h.lt
 have hk : Kp [q] u (u.setCell ⟨q, 0, none⟩ v') := (Kp.refl [q] u).set ⟨q, 0, none⟩ (by simp) v'
 have hob : u.heap[q]? = some (.cells #[v] 52 (0, 0)) := by rw [hb.block q hq]; exact h.obj
 have hne : v'.ownBlock ≠ some q := fun e => by
  have := (hr.lt q e).1
  omega
 refine ⟨⟨?_, ?_, hne, fun e he => (ok e he).kpo (off e he q (by simp)) hk, off⟩, hk⟩
 ·rw [heap_setCell_same u q 0 _ _ _ hob]
  rfl
 ·exact hk.row (ownsRow_low hr hB) (fun k hk' hm => by
   simp only [List.mem_cons, List.not_mem_nil, or_false] at hm
   rw [hm] at hk'
   exact hne hk')
theorem rfirst_any (w : World) : Calls Tryz.prog 76 #[] w (Rst w sqA) := by
 obtain ⟨r, hr⟩ : ∃ r : Sx, r = { sx0 with all := true, od := ⟨some ⟨w.heap.size + 1, 0, none⟩, 1, 1, [[0]]⟩ } := ⟨_, rfl⟩
 have hk := bk_new (w.alloc (.cells #[.bool r.at_, .int .i64 r.buf, .slice r.dm.a r.dm.n r.dm.c, .slice r.fr.a r.fr.n r.fr.c, .bool r.inp, .bool r.all, .slice r.rg.a r.rg.n r.rg.c, .bool r.ord, .slice r.od.a r.od.n r.od.c, .slice r.pl.a r.pl.n r.pl.c] 72)) #[.int .i64 0] 3
 have hb := Below.on (bel_new w (.cells #[.bool r.at_, .int .i64 r.buf, .slice r.dm.a r.dm.n r.dm.c, .slice r.fr.a r.fr.n r.fr.c, .bool r.inp, .bool r.all, .slice r.rg.a r.rg.n r.rg.c, .bool r.ord, .slice r.od.a r.od.n r.od.c, .slice r.pl.a r.pl.n r.pl.c] 72)) (bel_new (w.alloc (.cells #[.bool r.at_, .int .i64 r.buf, .slice r.dm.a r.dm.n r.dm.c, .slice r.fr.a r.fr.n r.fr.c, .bool r.inp, .bool r.all, .slice r.rg.a r.rg.n r.rg.c, .bool r.ord, .slice r.od.a r.od.n r.od.c, .slice r.pl.a r.pl.n r.pl.c] 72)) (.cells #[.int .i64 0] 3))
 have hz := (bs_new w r).on (bel_new (w.alloc (.cells #[.bool r.at_, .int .i64 r.buf, .slice r.dm.a r.dm.n r.dm.c, .slice r.fr.a r.fr.n r.fr.c, .bool r.inp, .bool r.all, .slice r.rg.a r.rg.n r.rg.c, .bool r.ord, .slice r.od.a r.od.n r.od.c, .slice r.pl.a r.pl.n r.pl.c] 72)) (.cells #[.int .i64 0] 3))
 rw [size_new] at hk
 subst hr
 have HK := hid hk
 have HB := hid hb
 have HZ := hid hz
 clear hk hb hz
 go_enter Tryz.func76, Tryz.ntmps76
 go_wp2
 refine bodyPost_ret (results_cell_row rfl _ _ w.heap.size _ _ _ _ rfl HZ.out.bk.obj Tryz.underlying72 rfl infoSt) rfl ?_
 exact ⟨_, rfl, ⟨RdM.nil _ _, RdM.nil _ _, RdM.nil _ _, rdm_one1 HK.out, RdM.nil _ _⟩, ⟨(fun y e => by cases e), (fun y e => by cases e), (fun y e => by cases e), (fun y e => by cases e; show w.heap.size ≤ w.heap.size + 1; omega), (fun y e => by cases e)⟩, rfl, HB.out⟩
def newR (r : Sx) : Sr := ⟨0, false, sx0, sx0, r⟩
theorem newR_f {r : Sx} (h : r.q = sqA) : (newR r).f = sf0 := by
 show Sf.mk 0 false sq0 sq0 r.q = _
 rw [h]
 rfl
theorem off_sx0 (P : Nat) : sx0.Off P := ⟨(fun y e => by cases e), (fun y e => by cases e), (fun y e => by cases e), (fun y e => by cases e), (fun y e => by cases e)⟩
theorem radd_any (h : Df base X w q v L) (hX : ∀ P ∈ X, P < w.heap.size) (hB : base ≤ w.heap.size) (hl : L.length ≤ 40) (id : Int) :
  Calls Tryz.prog 35 #[.pointer (some ⟨q, 0, none⟩), .int .i64 id] w (RfN base X w q v (addE (abs L) id) (addF (abs L) id)) := by
 obtain ⟨i0, hi, hz0, hz1, hz2⟩ := infoMP infoSr
 have CS := hid (rs_any h id)
 have HNO : Hid (∀ k : Nat, addE (abs L) id = k → k ≠ 0 → RfN base X w q v (addE (abs L) id) (addF (abs L) id) (.returned (.int .i64 (k : Nat))) w) := fun k hk h0 =>
  ⟨by rw [hk], v, L, h, by rw [addF, if_neg (by rw [hk]; exact h0)], Kp.refl _ _, .inl rfl⟩
 by_cases h1 : id < 1
 ·have e1 : decide (id < 1) = true := decide_eq_true h1
  have HE := hid (HNO.out 1 (by rw [addE, if_pos h1]) (by decide))
  clear h hX h1 HNO
  go_enter Tryz.func35, Tryz.ntmps35
  go_wp2
  go_ret
  exact HE.out
 ·have e1 : decide (id < 1) = false := decide_eq_false h1
  cases hs : gt L id with
  | some s =>
   have HE := hid (HNO.out 5 (by rw [addE, if_neg h1, gt_abs, hs]; rfl) (by decide))
   have HN := hid hs
   clear h hX h1 hs HNO
   go_enter Tryz.func35, Tryz.ntmps35
   go_wp2_with fail
   refine CS.out.mono ?_
   rintro e w1 ⟨r, rfl, hr, hw1⟩
   obtain rfl : w = w1 := hw1.symm
   obtain ⟨g, i, rfl, hg, hi⟩ := hr.ys HN.out
   clear hr CS hw1 hg hi
   go_wp2
   go_ret
   exact HE.out
  | none =>
   obtain ⟨a, c, hv, hle, hmx, c0, -⟩ := h.val
   simp only [maxLen] at hmx
   have hqlt := h.lt
   have HN := hid hs
   by_cases h4 : 40 ≤ L.length
   ·have e4 : decide ((40 : Int) ≤ (L.length : Nat)) = true := decide_eq_true (by omega)
    have HE := hid (HNO.out 4 (by rw [addE, if_neg h1, gt_abs, hs]; show (if 40 ≤ (abs L).length then 4 else 0) = 4; rw [abs_length, if_pos h4]) (by decide))
    generalize L.length = n at *
    clear h hX h1 hs HNO hv
    go_enter Tryz.func35, Tryz.ntmps35
    go_wp2_with fail
    refine CS.out.mono ?_
    rintro e w1 ⟨r, rfl, hr, hw1⟩
    obtain rfl : w = w1 := hw1.symm
    obtain rfl := hr.no HN.out
    clear hr CS hw1
    go_wp2
    go_ret
    exact HE.out
   ·have e4 : decide ((40 : Int) ≤ (L.length : Nat)) = false := decide_eq_false (by omega)
    have ha0 : addE (abs L) id = 0 := by
     rw [addE, if_neg h1, gt_abs, hs]
     show (if 40 ≤ (abs L).length then 4 else 0) = 0
     rw [abs_length, if_neg h4]
    have HA0 := hid ha0
    have HSRC := hid h.src
    rw [hv] at HSRC
    have hblk := h.blk hX
    have HF : Hid (∀ (w5 w6 w8 : World) (v5 v8 : Value) (r : Sx), w5.ownsRow w.heap.size 78 33 v5 (0 + L.length) ([] ++ rcs L) → w.grownBy w5 (Value.slice none 0 0).ownBlock → r.Ok w6 → r.New w5.heap.size → r.q = sqA → Below w5.heap.size w5 w6 → w8.ownsRow w.heap.size 78 33 v8 (L.length + 1) (rcs L ++ rcs [(id, newR r)]) → (w6.alloc (.cells (scs (id, newR r)).toArray 78)).grownBy w8 v5.ownBlock → (v8.ownBlock = v5.ownBlock ∨ v8.ownBlock = some (w6.alloc (.cells (scs (id, newR r)).toArray 78)).heap.size) →
      RfN base X w q v (addE (abs L) id) (addF (abs L) id) (.returned (.int .i64 0)) (w8.setCell ⟨q, 0, none⟩ v8) ∧ w8.cell? ⟨q, 0, none⟩ = some (.slice a L.length c) ∧ w8.frozen? ⟨q, 0, none⟩ = false) := fun w5 w6 w8 v5 v8 r o5 g5 okr hnr hqr hb6 o8 g8 hat => by
     have hb5 : Below w.heap.size w w5 := (Below.refl _ _).grown g5 (Nat.le_refl _) (fun k hk => by cases hk)
     have hb7 := Below.on hb6 (bel_new w6 (.cells (scs (id, newR r)).toArray 78))
     have hb58 : Below w.heap.size w (w6.alloc (.cells (scs (id, newR r)).toArray 78)) := Below.on hb5 hb7
     have hb8 : Below w.heap.size w w8 := hb58.grown g8 hb58.size (fun k hk => (o5.lt k hk).1)
     have hs6 := hb6.size
     have hok8 : ∀ e ∈ L ++ [(id, newR r)], e.2.Ok w8 := fun e he => by
      rcases List.mem_append.1 he with he | he
      ·exact (h.ok e he).on hb8
      ·simp only [List.mem_singleton] at he
       subst he
       refine ⟨sx0_ok _, sx0_ok _, ?_⟩
       have hg := okr.on (bel_new w6 (.cells (scs (id, newR r)).toArray 78))
       cases hv5 : v5.ownBlock with
       | none =>
        rw [hv5] at g8
        exact hg.on ((kp_of_grown g8).below (Nat.le_refl _) (fun k hk => by cases hk))
       | some k5 =>
        rw [hv5] at g8
        have hk5 := o5.lt k5 hv5
        exact hg.kpo (off_new hnr (by omega)) (kp_of_grown g8)
     have hof8 : ∀ e ∈ L ++ [(id, newR r)], ∀ P ∈ q :: (v8.ownBlock.toList ++ X), e.2.Off P := fun e he P hP => by
      have hcase : (P < w.heap.size ∧ (P = q ∨ P ∈ X)) ∨ v8.ownBlock = some P := by
       rcases List.mem_cons.1 hP with hP | hP
       ·exact .inl ⟨by rw [hP]; exact hqlt, .inl hP⟩
       ·rcases List.mem_append.1 hP with hP | hP
        ·exact .inr (by simpa using hP)
        ·exact .inl ⟨hX P hP, .inr hP⟩
      rcases List.mem_append.1 he with he | he
      ·rcases hcase with ⟨_, hq | hx⟩ | hv8
       ·exact h.off e he P (by simp [hq])
       ·exact h.off e he P (by simp [hx])
       ·exact off_olds (h.ok e he) (o8.lt P hv8).1
      ·simp only [List.mem_singleton] at he
       subst he
       refine ⟨off_sx0 P, off_sx0 P, ?_⟩
       rcases hcase with ⟨hlt, _⟩ | hv8
       ·exact off_new hnr (by have := hb5.size; omega)
       ·rcases hat with hat | hat
        ·rw [hat] at hv8
         exact off_new hnr (o5.lt P hv8).2
        ·rw [hat] at hv8
         have e := Option.some.inj hv8
         exact off_old okr (by rw [← e, size_new]; omega)
     obtain ⟨hD, hK⟩ := h.row' hb8 hB (L' := L ++ [(id, newR r)]) (by rw [List.length_append, rcs_append]; exact o8) hok8 hof8
     have hob : w8.heap[q]? = some (.cells #[v] 52 (0, 0)) := (h.on hb8).obj
     refine ⟨⟨by rw [ha0]; rfl, v8, _, hD, ?_, (kp_of_below hb8 _).trans hK (fun k hk _ => by simp only [List.mem_cons, List.not_mem_nil, or_false] at hk; simp [hk]), .inr fun g hg => (o8.lt g hg).1⟩, ?_, frozen_of_row w8 q 0 _ _ hob⟩
     ·rw [addF, if_pos ha0, abs, List.map_append]
      show abs L ++ [(id, (newR r).f)] = _
      rw [newR_f hqr]
     ·rw [cell_of_row w8 q 0 _ _ _ hob, ← hv]
      rfl
    have HLEN := hid hl
    generalize L.length = n at *
    have hn40 : n ≤ 40 := hl
    clear h hX h1 hs HNO hv ha0 hblk
    go_enter Tryz.func35, Tryz.ntmps35
    go_wp2_with fail
    refine CS.out.mono ?_
    rintro e w1 ⟨r, rfl, hr, hw1⟩
    obtain rfl : w = w1 := hw1.symm
    obtain rfl := hr.no HN.out
    clear hr CS hw1
    go_wp2_with (at_builtin; refine wpList_append_own_src _ rfl (.const (.slice none 0 0)) (.tmp 24) 50 50 rfl w.heap.size 78 i0 (.agg (scs (0, ⟨0, false, sx0, sx0, sx0⟩)).toArray) 33 480 Tryz.underlying50 hi hz0 hz1 hz2 rfl _ 0 [] rfl (World.ownsRow_nil _ _ _ _) _ _ _ rfl HSRC.out (by simp only [maxLen]; omega) (fitsR (by omega)) (Nat.le_refl _) ?_; intro v5 w5 o5 g5; have O5 := hid o5; have G5 := hid g5; clear o5 g5)
    refine (rfirst_any w5).mono ?_
    rintro e w6 ⟨r, rfl, okr, hnr, hqr, hb6⟩
    have hO6 : (w6.alloc (.cells (scs (id, newR r)).toArray 78)).ownsRow w.heap.size 78 33 v5 n (rcs L) := by
     have := O5.out
     rw [Nat.zero_add, List.nil_append] at this
     exact ownsRow_below this (Below.on hb6 (bel_new _ _))
    have hs6 : w.heap.size ≤ (w6.alloc (.cells (scs (id, newR r)).toArray 78)).heap.size := by
     have h1 := G5.out.size
     have h2 := hb6.size
     rw [size_new]
     omega
    have HO6 := hid hO6
    have HS6 := hid (srcS w6 (id, newR r))
    have HFF := hid (fun w8 v8 => HF.out w5 w6 w8 v5 v8 r O5.out G5.out okr hnr hqr hb6)
    clear okr hnr hqr hb6 hO6 HF
    go_wp2_with (at_builtin; refine wpList_append_own_at _ rfl (.tmp 25) (.tmp 29) 50 50 rfl w.heap.size 78 i0 (.agg (scs (0, ⟨0, false, sx0, sx0, sx0⟩)).toArray) 33 480 Tryz.underlying50 hi hz0 hz1 hz2 rfl _ _ _ rfl HO6.out _ _ _ rfl HS6.out (by simp only [maxLen]; omega) (fitsR (by omega)) hs6 ?_; intro v8 w8 o8 g8 hat; obtain ⟨hE, c8, f8⟩ := HFF.out w8 v8 o8 g8 hat; obtain ⟨a8, cc8, rfl⟩ := row_form o8; have HE := hid hE; clear o8 g8 hat hE)
    go_ret
    exact HE.out
end
section
variable {base : Nat} {X : List Nat} {q : Nat} {v : Value}
structure Kw (base : Nat) (X : List Nat) (q : Nat) (v : Value) (B : Nat) (u : World) (L : Ro) (vl : Value) (acc : List Int) : Prop where
 df : Df base X u q v L
 row : u.ownsRow B 3 1 vl acc.length (ic acc)
 blk : ∀ P ∈ q :: (v.ownBlock.toList ++ X), P < B
 le : B ≤ u.heap.size
 off : ∀ e ∈ L, ∀ P, vl.ownBlock = some P → e.2.Off P
theorem Kw.on {B : Nat} {u u' : World} {L : Ro} {vl : Value} {acc : List Int} (h : Kw base X q v B u L vl acc) (hb : Below u.heap.size u u') : Kw base X q v B u' L vl acc :=
 ⟨h.df.on hb, ownsRow_below h.row hb, h.blk, Nat.le_trans h.le hb.size, h.off⟩
structure Kb (v : Value) (vl : Value) (u : World) (vl' : Value) (u' : World) : Prop where
 kp : Kp (v.ownBlock.toList ++ vl.ownBlock.toList) u u'
 at_ : vl'.ownBlock = vl.ownBlock ∨ ∀ P, vl'.ownBlock = some P → u.heap.size ≤ P
theorem Kb.refl (v vl : Value) (u : World) : Kb v vl u vl u := ⟨Kp.refl _ _, .inl rfl⟩
theorem Kb.trans {vl vl1 vl2 : Value} {u u1 u2 : World} (h : Kb v vl u vl1 u1) (h' : Kb v vl1 u1 vl2 u2) : Kb v vl u vl2 u2 := by
 refine ⟨h.kp.trans h'.kp (fun k hk hlt => ?_), ?_⟩
 ·rcases List.mem_append.1 hk with hk | hk
  ·exact List.mem_append_left _ hk
  ·rcases h.at_ with e | e
   ·rw [e] at hk
    exact List.mem_append_right _ hk
   ·have := e k (by simpa using hk)
    omega
 ·rcases h'.at_ with e' | e'
  ·rcases h.at_ with e | e
   ·exact .inl (e'.trans e)
   ·exact .inr fun P hP => e P (by rw [← e']; exact hP)
  ·exact .inr fun P hP => Nat.le_trans h.kp.size (e' P hP)
theorem Kb.on {vl vl1 : Value} {u u1 u2 : World} (h : Kb v vl u vl1 u1) (hb : Below u1.heap.size u1 u2) : Kb v vl u vl1 u2 := h.trans ⟨kp_of_below hb _, .inl rfl⟩
theorem rdm_kb {m : Nat} {vl vl1 : Value} {u u1 : World} {a : Option Addr} {n c : Nat} {l : List (List Int)} (h : RdM m u a n c l) (hk : Kb v vl u vl1 u1) (h1 : ∀ y P, a = some y → 0 < n → v.ownBlock = some P ∨ vl.ownBlock = some P → y.block ≠ P) : RdM m u1 a n c l :=
 h.kp hk.kp (fun y hy hn hm => by
  rcases List.mem_append.1 hm with hm | hm
  ·exact h1 y _ hy hn (.inl (by simpa using hm)) rfl
  ·exact h1 y _ hy hn (.inr (by simpa using hm)) rfl)
def KdR (base : Nat) (X : List Nat) (q : Nat) (v : Value) (B : Nat) (u : World) (vl : Value) (r : Fo × List Int) (e : Ending) (w' : World) : Prop := ∃ v' L', e = .returned v' ∧ Kw base X q v B w' L' v' r.2 ∧ abs L' = r.1 ∧ Kb v vl u v' w'
def aplR (r : Sx) (s : Sr) : Sr := { s with no := r, ca := sx0 }
theorem aplR_f {r : Sx} {s : Sr} (h : r.q = apl s.no.q s.ca.q) : (aplR r s).f = aplS s.f := by
 show Sf.mk _ _ _ _ r.q = _
 rw [h]
 rfl
theorem Kw.own {B : Nat} {u : World} {L : Ro} {vl : Value} {acc : List Int} (h : Kw base X q v B u L vl acc) {g P : Nat} (hg : v.ownBlock = some g) (hP : vl.ownBlock = some P) : P ≠ g := fun e => by
 have h1 := (h.row.lt P hP).1
 have h2 := h.blk g (by simp [hg])
 omega
end
section
variable {base : Nat} {X : List Nat} {q : Nat} {v : Value} {B : Nat} {u : World} {L : Ro} {vl : Value} {acc : List Int}
theorem Kw.lt (h : Kw base X q v B u L vl acc) : ∀ P ∈ q :: (v.ownBlock.toList ++ X), P < u.heap.size := fun P hP => Nat.lt_of_lt_of_le (h.blk P hP) h.le
theorem Kw.apl (h : Kw base X q v B u L vl acc) {u1 : World} (hb : Below u.heap.size u u1) {i g : Nat} {k : Int} {s : Sr} (hi : L[i]? = some (k, s)) (hg : v.ownBlock = some g) (hs : gt L k = some s) (hn : (keys L).Nodup) {r : Sx} (okr : r.Ok u1) (hnr : r.New u.heap.size) (hq : r.q = apl s.no.q s.ca.q) :
  Df base X (sto u1 g (i * 33 + 23) r) q v (L.set i (k, noR r s)) ∧ (L.set i (k, noR r s))[i]? = some (k, noR r s) ∧ Kw base X q v B (sto (sto u1 g (i * 33 + 23) r) g (i * 33 + 13) sx0) (L.set i (k, aplR r s)) vl acc ∧ abs (L.set i (k, aplR r s)) = upd (abs L) k aplS ∧ Kb v vl u vl (sto (sto u1 g (i * 33 + 23) r) g (i * 33 + 13) sx0) := by
 have h1 := h.on hb
 have hof : ∀ P ∈ q :: (v.ownBlock.toList ++ X), r.Off P := fun P hP => off_new hnr (h.lt P hP)
 obtain ⟨D2, K2⟩ := h1.df.setNo hi hg r okr hof
 have hi2 : (L.set i (k, noR r s))[i]? = some (k, noR r s) := List.getElem?_set_self (List.getElem?_eq_some_iff.1 hi).1
 obtain ⟨D3, K3⟩ := D2.setCa hi2 hg sx0 (sx0_ok _) (fun P _ => off_sx0 P)
 rw [List.set_set] at D3
 have K4 := K2.trans K3 (fun k hk _ => hk)
 refine ⟨D2, hi2, ⟨D3, K4.row h1.row (fun P hP hm => ?_), h.blk, Nat.le_trans h1.le K4.size, fun e he P hP => ?_⟩, ?_, ⟨(kp_of_below hb _).trans K4 (fun P hP _ => ?_), .inl rfl⟩⟩
 ·simp only [List.mem_cons, List.not_mem_nil, or_false] at hm
  exact h.own hg hP hm
 ·rcases mem_set he with rfl | he
  ·have hx := h.off _ (List.mem_of_getElem? hi) P hP
   exact ⟨hx.pe, off_sx0 P, off_new hnr (h.row.lt P hP).2⟩
  ·exact h.off e he P hP
 ·rw [← st_set hn hi (aplR r s)]
  exact abs_upd hs aplS (aplR r s) (aplR_f hq)
 ·simp only [List.mem_cons, List.not_mem_nil, or_false] at hP
  simp [hP, hg]
theorem Kw.app (h : Kw base X q v B u L vl acc) {u' : World} {vl' : Value} (z : Int) (o : u'.ownsRow B 3 1 vl' (acc.length + 1) (ic acc ++ ic [z])) (g : (u.alloc (.cells #[.int .i64 z] 3)).grownBy u' vl.ownBlock) (hat : vl'.ownBlock = vl.ownBlock ∨ vl'.ownBlock = some (u.alloc (.cells #[.int .i64 z] 3)).heap.size) :
  Kw base X q v B u' L vl' (acc ++ [z]) ∧ Kb v vl u vl' u' := by
 have hb : Below u.heap.size u (u.alloc (.cells #[.int .i64 z] 3)) := bel_new _ _
 have h1 := h.on hb
 have hk := kp_of_grown g
 have hlow : ∀ P, vl.ownBlock = some P → ∀ Q ∈ q :: (v.ownBlock.toList ++ X), Q ≠ P := fun P hP Q hQ e => by
  have := (h.row.lt P hP).1
  have := h.blk Q hQ
  omega
 have hnew : ∀ P, vl'.ownBlock = some P → vl.ownBlock = some P ∨ u.heap.size ≤ P := fun P hP => by
  rcases hat with e | e
  ·exact .inl (by rw [← e]; exact hP)
  ·rw [e] at hP
   cases hP
   exact .inr hb.size
 have hokx : ∀ e ∈ L, e.2.Ok u' := fun e he => by
  have hok := h1.df.ok e he
  cases hP : vl.ownBlock with
  | none =>
   rw [hP] at hk
   exact hok.kpo (P := u'.heap.size) (off_olds hok hk.size) (hk.mono (fun k hk _ => by cases hk))
  | some P =>
   rw [hP] at hk
   exact hok.kpo (h.off e he P hP) hk
 refine ⟨⟨⟨hk.var h1.df.obj (fun hm => hlow q (by simpa using hm) q (by simp) rfl), hk.row h1.df.row (fun P hP hm => hlow P (by simpa using hm) P (by simp [hP]) rfl), h.df.ne, hokx, h.df.off⟩, by rw [List.length_append, ic_append]; exact o, h.blk, Nat.le_trans h1.le hk.size, fun e he P hP => ?_⟩, ⟨(kp_of_below hb _).trans hk (fun P hP _ => List.mem_append_right _ hP), ?_⟩⟩
 ·rcases hnew P hP with e1 | e1
  ·exact h.off e he P e1
  ·exact off_olds (h.df.ok e he) e1
 ·rcases hat with e | e
  ·exact .inl e
  ·refine .inr fun P hP => ?_
   rw [e] at hP
   cases hP
   exact hb.size
end
section
variable {base : Nat} {X : List Nat} {w : World} {q : Nat} {v : Value} {L : Ro}
theorem mem_gt' {L : Ro} {id : Int} {s : Sr} (h : gt L id = some s) : (id, s) ∈ L := by
 obtain ⟨i, h1, _⟩ := at_key h
 exact List.mem_of_getElem? h1
theorem rwalk_any (h : Df base X w q v L) (hI : Inv (abs L)) (hN : Nof (abs L)) {m : Nat} (hZ : Szf m (abs L)) : ∀ (n : Nat) (id x y : Int) (u : World) (vl : Value) (acc : List (List Int)), OwM 3 46 w u vl acc → 40 ≤ n + dpt (abs L) id → n ≤ 41 → acc.length + 100 * n ≤ 100000 → -1099511627776 ≤ x - n * 16777216 → x + n * 16777216 ≤ 1099511627776 → -1099511627776 ≤ y - n * 16777216 → y + n * 16777216 ≤ 1099511627776 →
  Calls Tryz.prog 72 #[.pointer (some ⟨q, 0, none⟩), vl, .int .i64 id, .int .i64 x, .int .i64 y] u fun e w' => ∃ v', e = .returned v' ∧ OwM 3 46 w w' v' (acc ++ wlk (abs L) (n + 1) id x y) := by
 intro n
 induction n using Nat.strongRecOn with
 | ind n ih =>
  intro id x y u vl acc ho hd hn hacc hx1 hx2 hy1 hy2
  obtain ⟨i0, hi, hn0, hn1, hn2⟩ := infoMP infoM3
  have hD := h.on ho.bel
  have CS := hid (rs_any hD id)
  obtain ⟨al, cl, rfl, -, -⟩ := ho.rd
  cases hs : gt L id with
  | none =>
   have HE : Hid (OwM 3 46 w u (.slice al acc.length cl) (acc ++ wlk (abs L) (n + 1) id x y)) := by
    rw [wlk_none (by rw [gt_abs, hs]; rfl), List.append_nil]
    exact ho
   have HN := hid hs
   clear hs ho hD ih hd hn
   go_enter Tryz.func72, Tryz.ntmps72
   go_wp2_with fail
   refine CS.out.mono ?_
   rintro e w1 ⟨r, rfl, hr, hw1⟩
   obtain rfl : u = w1 := hw1.symm
   obtain rfl := hr.no HN.out
   clear hr CS hw1
   go_wp2
   go_ret
   exact ⟨_, rfl, HE.out⟩
  | some s =>
   have hsa : gt (abs L) id = some s.f := by rw [gt_abs, hs]; rfl
   by_cases hb0 : s.no.buf = 0
   ·have HE : Hid (OwM 3 46 w u (.slice al acc.length cl) (acc ++ wlk (abs L) (n + 1) id x y)) := by
     rw [wlk_zero hsa hb0, List.append_nil]
     exact ho
    have HN := hid hs
    have HD := hid hD
    clear hs ho hD ih hd hn hsa
    go_enter Tryz.func72, Tryz.ntmps72
    go_wp2_with fail
    refine CS.out.mono ?_
    rintro e w1 ⟨r, rfl, hr, hw1⟩
    obtain rfl : u = w1 := hw1.symm
    obtain ⟨g, i, rfl, hg, hi1⟩ := hr.ys HN.out
    have c1 : u.cell? ⟨g, i * 33 + 23 + 1, none⟩ = some (.int .i64 s.no.buf) := HD.out.at_ hi1 hg (j := 24) (by omega)
    rw [hb0] at c1
    clear hr CS hw1 hg hi1
    go_wp2
    go_ret
    exact ⟨_, rfl, HE.out⟩
   ·obtain ⟨od, hod⟩ : ∃ od, od = un1 s.no.od.l := ⟨_, rfl⟩
    have hw : wlk (abs L) (n + 1) id x y = od.flatMap (wk1 (abs L) n id x y s.no.pl.l) := by rw [wlk_some hsa hb0, hod]; rfl
    have hwl : (od.flatMap (wk1 (abs L) n id x y s.no.pl.l)).length ≤ 40 := by
     rw [← hw]
     exact Nat.le_trans (wlk_length hI hN _ _ _ _) (Nat.le_trans (dsc_le _ _) hI.len)
    have hok0 : s.Ok w := h.ok _ (mem_gt' hs)
    have hrz : Rz w s.no.od.a s.no.od.n s.no.od.c od := by rw [hod]; exact rz_of_rdm hok0.no.od
    have hed := (hZ id s.f hsa).ed.2.2
    have HREC : Hid (∀ (k : Int) (j : Nat), od[j]? = some k → k ≠ 0 → ∀ (u' : World) (vl' : Value) (acc' : List (List Int)) (z1 z2 : Int), OwM 3 46 w u' vl' acc' → acc'.length ≤ acc.length + 40 → plx k s.no.pl.l = (z1, z2) → Calls Tryz.prog 72 #[.pointer (some ⟨q, 0, none⟩), vl', .int .i64 k, .int .i64 (x + z1), .int .i64 (y + z2)] u' fun e w' => ∃ v', e = .returned v' ∧ OwM 3 46 w w' v' (acc' ++ wk1 (abs L) n id x y s.no.pl.l k)) := fun k j hj hk0 u' vl' acc' z1 z2 ho' hl' hp => by
     obtain ⟨c, hc, hpar⟩ := hI.kid id s.f hsa k (.inr (.inr (by show k ∈ un1 s.no.od.l; rw [← hod]; exact List.mem_of_getElem? hj))) hk0
     have hdk := dpt_lt hI.acy hc
     rw [hpar] at hdk
     have hdl := dpt_le (abs L) k
     have hFl := hI.len
     obtain ⟨n', rfl⟩ : ∃ n', n = n' + 1 := ⟨n - 1, by omega⟩
     have hE := plx_edge (k := k) hed
     rw [show s.f.no.pl = s.no.pl.l from rfl, hp] at hE
     have := ih n' (by omega) k (x + z1) (y + z2) u' vl' acc' ho' (by omega) (by omega) (by omega) (by omega) (by omega) (by omega) (by omega)
     rw [wk1, if_neg hk0, hp]
     exact this
    have HNX : Hid (∀ (k : Int) (j : Nat), od[j]? = some k → k ≠ 0 → -1125899906842624 ≤ x + (plx k s.no.pl.l).1 ∧ x + (plx k s.no.pl.l).1 ≤ 1125899906842624 ∧ -1125899906842624 ≤ y + (plx k s.no.pl.l).2 ∧ y + (plx k s.no.pl.l).2 ≤ 1125899906842624) := fun k j _ _ => by
     have hE := plx_edge (k := k) hed
     rw [show s.f.no.pl = s.no.pl.l from rfl] at hE
     omega
    obtain ⟨G, hG⟩ : ∃ G, G = wk1 (abs L) n id x y s.no.pl.l := ⟨_, rfl⟩
    have HG0 : Hid (G 0 = [[id, x, y]]) := by rw [hG]; exact if_pos rfl
    rw [← hG] at hw hwl HREC
    have HW := hid hw
    have HWL := hid hwl
    have HN := hid hs
    have HDW := hid h
    have HRZ := hid hrz
    have HOK := hid hok0.no
    have HO := hid ho
    have HOD := hid hod
    obtain ⟨N, hNN⟩ : ∃ N, N = s.no.od.n := ⟨_, rfl⟩
    have hN63 := hrz.small.1
    have HLN := hid hrz.len
    rw [← hNN] at hN63 HLN
    have HNN := hid hNN
    have e0 : (s.no.buf == 0) = false := beq_false_of_ne hb0
    clear h hI hN hZ hs hsa hb0 hw hwl hok0 hrz hed hG hod ho hD ih hd hn hNN
    go_enter Tryz.func72, Tryz.ntmps72
    go_wp2_with fail
    refine CS.out.mono ?_
    rintro e w1 ⟨r, rfl, hr, hw1⟩
    obtain rfl : u = w1 := hw1.symm
    obtain ⟨g, i, rfl, hg, hi1⟩ := hr.ys HN.out
    have HCEL : Hid (∀ u', RowKit.Below w.heap.size w u' → u'.cell? ⟨g, i * 33 + 23 + 1, none⟩ = some (.int .i64 s.no.buf) ∧ u'.cell? ⟨g, i * 33 + 23 + 8, none⟩ = some (.slice s.no.od.a N s.no.od.c) ∧ u'.cell? ⟨g, i * 33 + 23 + 9, none⟩ = some (.slice s.no.pl.a s.no.pl.n s.no.pl.c)) := fun u' hu => by
     have hD := HDW.out.on hu
     refine ⟨hD.at_ hi1 hg (j := 24) (by omega), ?_, hD.at_ hi1 hg (j := 32) (by omega)⟩
     rw [HNN.out]
     exact hD.at_ hi1 hg (j := 31) (by omega)
    obtain ⟨c1, c2, c3⟩ := HCEL.out u HO.out.bel
    clear hr CS hw1 hg hi1
    go_wp2
    go_loopw [1, 12] (fun vv i wr => ∃ j : Nat, i = .int .i64 j ∧ j ≤ N ∧ OwM 3 46 w wr vv (acc ++ (od.take j).flatMap G)) (fun _ i _ => N - (numOf i).toNat)
    case atStart => exact ⟨0, rfl, by omega, by simpa using HO.out⟩
    case round =>
     obtain ⟨j, rfl, hj, hor⟩ := hrel
     obtain ⟨-, c2, c3⟩ := HCEL.out wr hor.bel
     have hll : (acc ++ (od.take j).flatMap G).length ≤ acc.length + 40 := by
      rw [List.length_append]
      have := flat_take_le od j G
      have := HWL.out
      omega
     by_cases hgo : j < N
     ·have e1 : decide ((j : Int) < N) = true := decide_eq_true (by omega)
      have e2 : (j : Int) < N := by omega
      obtain ⟨bl, off, k, ha, _, hk, ck⟩ := (HRZ.out.on hor.bel).at_ (j := j) (by rw [← HNN.out]; exact hgo)
      rw [ha] at c2
      have HFT := hid (flat_take hk G)
      have HKJ := hid hk
      have HOR := hid hor
      clear hk ha
      by_cases hk0 : k = 0
      ·subst hk0
       rw [HG0.out] at HFT
       have hO5 := HOR.out.on (bel_new wr (.cells #[.int .i64 id, .int .i64 x, .int .i64 y] 46))
       have HS := hid (src3 wr id x y)
       have HO5 := hid hO5
       have HZ5 := hid hO5.own
       have hsz := hO5.bel.size
       have HG5 : Hid (∀ v v' u, OwM 3 46 w (wr.alloc (.cells #[.int .i64 id, .int .i64 x, .int .i64 y] 46)) v (acc ++ (od.take j).flatMap G) → u.ownsRow w.heap.size 46 3 v' ((acc ++ (od.take j).flatMap G).length + 1) (mcs (acc ++ (od.take j).flatMap G) ++ mcs [[id, x, y]]) → (wr.alloc (.cells #[.int .i64 id, .int .i64 x, .int .i64 y] 46)).grownBy u v.ownBlock → OwM 3 46 w u v' (acc ++ (od.take (j + 1)).flatMap G)) := fun v v' u h1 h2 h3 => by
        have h4 := h1.grown (k := [[id, x, y]]) (by simp) h2 h3
        rw [List.append_assoc] at h4
        rw [flat_take HKJ.out G, HG0.out]
        exact h4
       clear hO5 hor HFT
       generalize (acc ++ (od.take j).flatMap G).length = m9 at *
       go_wp2_with (at_builtin; refine wpList_append_own_src _ rfl (.tmp 50) (.tmp 55) 23 23 rfl w.heap.size 46 i0 (.agg #[.int .i64 0, .int .i64 0, .int .i64 0]) 3 24 Tryz.underlying23 hi hn0 hn1 hn2 rfl _ _ _ rfl HZ5.out _ _ _ rfl HS.out (by simp only [maxLen]; omega) (fitsM (by omega) (by decide)) hsz ?_; intro v6 w6 o6 g6; have HO6 := hid (HG5.out _ _ _ HO5.out o6 g6); clear o6 g6)
       go_roundw
       case rel => exact ⟨j + 1, by go_num, by omega, HO6.out⟩
       case measure => simp [numOf]; omega
      ·have e3 : (k == 0) = false := beq_false_of_ne hk0
       have CF := hid (rfind_any _ _ _ _ k wr (HOK.out.pl.on hor.bel))
       obtain ⟨av, cv, rfl, -, -⟩ := hor.rd
       have hnx := HNX.out k j HKJ.out hk0
       have HRC := hid (HREC.out k j HKJ.out hk0)
       clear hor hk0
       go_wp2_with fail
       refine CF.out.mono ?_
       rintro e w5 ⟨z0, z1, z2, b, rfl, hf, hb5⟩
       have hp := fndV_plx hf
       rw [hp] at hnx
       dsimp only at hnx
       have hO5 := (HOR.out.on hb5).on (bel_new w5 (.cells #[.int .i64 z0, .int .i64 z1, .int .i64 z2] 46))
       have HRC2 := hid (HRC.out _ _ _ z1 z2 hO5 hll hp)
       have HFT2 : Hid (acc ++ (od.take (j + 1)).flatMap G = (acc ++ (od.take j).flatMap G) ++ G k) := by rw [Hid, HFT.out, List.append_assoc]
       clear hf hb5 hp hO5 CF HRC HFT
       generalize (acc ++ (od.take j).flatMap G).length = m9 at *
       go_wp2_with fail
       refine HRC2.out.mono ?_
       rintro e w7 ⟨v7, rfl, ho7⟩
       rw [← HFT2.out] at ho7
       have HO7 := hid ho7
       clear ho7 HRC2
       go_wp2
       go_roundw
       case rel => exact ⟨j + 1, by go_num, by omega, HO7.out⟩
       case measure => simp [numOf]; omega
     ·have e1 : decide ((j : Int) < N) = false := decide_eq_false (by omega)
      obtain rfl : j = N := by omega
      rw [List.take_of_length_le (by rw [HLN.out]; exact Nat.le_refl _), ← HW.out] at hor
      have HE := hid hor
      clear hor
      go_wp2
      go_ret
      exact ⟨_, rfl, HE.out⟩
theorem rWalk_any (h : Df base X w q v L) (hI : Inv (abs L)) (hN : Nof (abs L)) {m : Nat} (hZ : Szf m (abs L)) (id : Int) :
  Calls Tryz.prog 25 #[.pointer (some ⟨q, 0, none⟩), .int .i64 id] w fun e w' => ∃ v', e = .returned v' ∧ OwM 3 46 w w' v' (wlk (abs L) 41 id 0 0) := by
 have HC := hid (rwalk_any h hI hN hZ 40 id 0 0 w (.slice none 0 0) [] (OwM.nil _ _ _) (by omega) (by omega) (by simp) (by omega) (by omega) (by omega) (by omega))
 clear h hI hN hZ
 go_enter Tryz.func25, Tryz.ntmps25
 go_wp2_with fail
 refine HC.out.mono ?_
 rintro e w1 ⟨v1, rfl, ho⟩
 rw [List.nil_append] at ho
 have HO := hid ho
 clear ho
 go_wp2
 go_ret
 exact ⟨_, rfl, HO.out⟩
end
end Go.Proofs.YtkjempffidndeaaGreatDoor
