/- Lemmas that the proof leans on. -/
import Derived.Test.YtkjempffidndeaaGreatDoorB34
namespace Go.Proofs.YtkjempffidndeaaGreatDoor
open Go Go.RowKit
set_option maxRecDepth 100000
set_option maxHeartbeats 4000000
section
variable {base : Nat} {X : List Nat} {w : World} {q : Nat} {v : Value} {L : Ro}
theorem wpList_load_run {P : Program} {ops : Array Oper} {rest : List Oper} {op : Oper} {a : Act} {w : World} {Q : Exit → Act → World → Prop} (hgd : op.guard = none) (ty : TypeId) (x : Operand) (ho : op.op = .load ty x) (p u : Value) (hx : a.eval x = p) (hr : (Instr.loadAt ty p).run P w = .ok u w)
  (h : wpList P ops Q rest (a.put op.dst u) w) : wpList P ops Q (op :: rest) a w :=
 wpList_plain hgd fun _ hK => by
  unfold Oper.wp execOp
  simp only [ho, hx, Sem.run_bind, hr, Result.andThen_ok, Sem.run_pure]
  exact hK _ _ h
theorem wpList_store_run {P : Program} {ops : Array Oper} {rest : List Oper} {op : Oper} {a : Act} {w w' : World} {Q : Exit → Act → World → Prop} (hgd : op.guard = none) (ty : TypeId) (x y : Operand) (ho : op.op = .store ty x y) (p u : Value) (hx : a.eval x = p) (hy : a.eval y = u) (hr : (Instr.storeAt ty p u).run P w = .ok () w')
  (h : wpList P ops Q rest (a.put op.dst undef) w') : wpList P ops Q (op :: rest) a w :=
 wpList_plain hgd fun _ hK => by
  unfold Oper.wp execOp
  simp only [ho, hx, hy, Sem.run_bind, hr, Result.andThen_ok, Sem.run_pure]
  exact hK _ _ h
def selfR (id : Int) (s : Sr) : Sr := { s with par := if s.par = id then 0 else s.par }
theorem selfR_f (id : Int) (s : Sr) : (selfR id s).f = selfS id s.f := by
 show Sf.mk (if s.par = id then 0 else s.par) _ _ _ _ = _
 unfold selfS
 show _ = if s.par = id then _ else _
 by_cases h : s.par = id
 ·rw [if_pos h, if_pos h]
  rfl
 ·rw [if_neg h, if_neg h]
  rfl
def drpL (id : Int) (L : Ro) : Ro := (rm L id).map fun e => (e.1, selfR id e.2)
theorem abs_rm (L : Ro) (id : Int) : abs (rm L id) = rm (abs L) id := by
 rw [abs, rm, rm, abs, List.filter_map]
 rfl
theorem drpL_abs (id : Int) (L : Ro) : abs (drpL id L) = (rm (abs L) id).map fun e => (e.1, selfS id e.2) := by
 rw [← abs_rm, drpL, abs, abs, List.map_map, List.map_map]
 refine List.map_congr_left fun e _ => ?_
 simp only [Function.comp, selfR_f]
theorem drpL_snoc {id : Int} {L : Ro} {j : Nat} {e : Int × Sr} (h : L[j]? = some e) : drpL id (L.take (j + 1)) = drpL id (L.take j) ++ if e.1 = id then [] else [(e.1, selfR id e.2)] := by
 rw [List.take_add_one, h, drpL, rm, List.filter_append, List.map_append]
 congr 1
 rw [Option.toList_some, List.filter_cons]
 by_cases he : e.1 = id
 ·rw [if_pos he, if_neg (by simpa using he)]
  rfl
 ·rw [if_neg he, if_pos (by simpa using he)]
  rfl
theorem mem_drpL {id : Int} {L : Ro} {e : Int × Sr} (h : e ∈ drpL id L) : ∃ t, (e.1, t) ∈ L ∧ e.2 = selfR id t := by
 obtain ⟨x, hx, rfl⟩ := List.mem_map.1 h
 exact ⟨x.2, mem_rm hx, rfl⟩
theorem drpL_length (id : Int) (L : Ro) : (drpL id L).length ≤ L.length := by
 rw [drpL, List.length_map]
 exact rm_length _ _
theorem rdropf_any (h : Df base X w q v L) (hX : ∀ P ∈ X, P < w.heap.size) (hB : base ≤ w.heap.size) (hI : Inv (abs L)) {m : Nat} (hZ : Szf m (abs L)) (hm : m ≤ 900) (id : Int) :
  Calls Tryz.prog 37 #[.pointer (some ⟨q, 0, none⟩), .int .i64 id] w (RfN base X w q v (drpE (abs L) id) (drpF (abs L) id)) := by
 obtain ⟨i0, hi, hz0, hz1, hz2⟩ := infoMP infoSr
 have CS := hid (rs_any h id)
 cases hs : gt L id with
 | none =>
  have HE : Hid (RfN base X w q v (drpE (abs L) id) (drpF (abs L) id) (.returned (.int .i64 5)) w) :=
   ⟨by rw [drpE, gt_abs, hs]; rfl, v, L, h, by rw [drpF, gt_abs, hs]; rfl, Kp.refl _ _, .inl rfl⟩
  have HN := hid hs
  clear h hX hI hZ hs
  go_enter Tryz.func37, Tryz.ntmps37
  go_wp2_with fail
  refine CS.out.mono ?_
  rintro e w1 ⟨r, rfl, hr, rfl⟩
  obtain rfl := hr.no HN.out
  clear hr CS
  go_wp2
  go_ret
  exact HE.out
 | some s0 =>
  have CU := hid (runsub_any h hX hI hZ hm id)
  have HN := hid hs
  have hlen := hI.len
  rw [abs_length] at hlen
  have HFIN : Hid (∀ (w1 w9 : World) (L1 : Ro) (v9 : Value), Df base X w1 q v L1 → abs L1 = unsF (abs L) id → Kp v.ownBlock.toList w w1 → w9.ownsRow w1.heap.size 78 33 v9 (drpL id L1).length (rcs (drpL id L1)) → Below w1.heap.size w1 w9 → RfN base X w q v (drpE (abs L) id) (drpF (abs L) id) (.returned (.int .i64 0)) (w9.setCell ⟨q, 0, none⟩ v9)) := fun w1 w9 L1 v9 hD ha hk o9 hb => by
   have hok : ∀ e ∈ drpL id L1, e.2.Ok w9 := fun e he => by
    obtain ⟨t, ht, e2⟩ := mem_drpL he
    have := (hD.ok _ ht).on hb
    rw [e2]
    exact ⟨this.pe, this.ca, this.no⟩
   have hof : ∀ e ∈ drpL id L1, ∀ P ∈ q :: (v9.ownBlock.toList ++ X), e.2.Off P := fun e he P hP => by
    obtain ⟨t, ht, e2⟩ := mem_drpL he
    have h1 : t.Off P := by
     rcases List.mem_cons.1 hP with hP | hP
     ·exact hD.off _ ht P (by simp [hP])
     ·rcases List.mem_append.1 hP with hP | hP
      ·exact off_olds (hD.ok _ ht) (o9.lt P (by simpa using hP)).1
      ·exact hD.off _ ht P (by simp [hP])
    rw [e2]
    exact ⟨h1.pe, h1.ca, h1.no⟩
   obtain ⟨hD9, hK9⟩ := hD.row' hb (Nat.le_trans hB hk.size) o9 hok hof
   refine ⟨by rw [drpE, gt_abs, hs]; rfl, v9, _, hD9, ?_, ((hk.mono (fun k hk _ => by simp [hk])).trans (kp_of_below hb _) (fun k hk _ => hk)).trans hK9 (fun k hk _ => by simp only [List.mem_cons, List.not_mem_nil, or_false] at hk; simp [hk]), .inr fun g hg => Nat.le_trans hk.size (o9.lt g hg).1⟩
   rw [drpL_abs, ha, drpF_eq (s := s0.f) (by rw [gt_abs, hs]; rfl)]
  have HLL : Hid (∀ L1 : Ro, abs L1 = unsF (abs L) id → L1.length ≤ 40) := fun L1 h1 => by
   rw [← abs_length, h1, unsF_length, abs_length]
   exact hlen
  clear h hX hI hZ hs
  go_enter Tryz.func37, Tryz.ntmps37
  go_wp2_with fail
  refine CS.out.mono ?_
  rintro e w0 ⟨r, rfl, hr, hw0⟩
  obtain rfl : w = w0 := hw0.symm
  obtain ⟨g0, i, rfl, hg0, hi0⟩ := hr.ys HN.out
  clear hr CS hw0 hg0 hi0
  go_wp2_with fail
  refine CU.out.mono ?_
  rintro e W ⟨rfl, L1, hD, ha, hk⟩
  obtain ⟨a, c, hv, hle, hmx, c0, hat⟩ := hD.val
  simp only [maxLen] at hmx
  have hql := hD.lt
  have hl1 := HLL.out L1 ha
  have HD := hid hD
  have HA := hid ha
  have HK := hid hk
  have HAT := hid hat
  obtain ⟨n, hn⟩ : ∃ n, n = L1.length := ⟨_, rfl⟩
  have HNN := hid hn
  rw [← hn] at c0 hle hl1
  clear hD ha hk hat hv hn CU
  go_wp2
  go_loopw [5, 6] (fun vv i wr => ∃ j : Nat, i = .int .i64 j ∧ j ≤ n ∧ wr.ownsRow W.heap.size 78 33 vv (drpL id (L1.take j)).length (rcs (drpL id (L1.take j))) ∧ RowKit.Below W.heap.size W wr) (fun _ i _ => n - (numOf i).toNat)
  case atStart => exact ⟨0, rfl, by omega, World.ownsRow_nil _ _ _ _, Below.refl _ _⟩
  case round =>
   obtain ⟨j, rfl, hj, ho, hb⟩ := hrel
   have hDr := HD.out.on hb
   rw [← hb.cell hql] at c0
   have hws := hb.size
   have hdl : (drpL id (L1.take j)).length ≤ j := Nat.le_trans (drpL_length _ _) (List.length_take_le _ _)
   by_cases hgo : j < n
   ·have e1 : decide ((j : Int) < n) = true := decide_eq_true (by omega)
    have e2 : (j : Int) < n := by omega
    obtain ⟨⟨k, s⟩, he⟩ : ∃ e, L1[j]? = some e := ⟨_, List.getElem?_eq_getElem (by rw [← HNN.out]; exact hgo)⟩
    obtain ⟨g, rfl, hg, -⟩ := HAT.out j (k, s) he
    obtain ⟨A, hA⟩ : ∃ A, A = (scs (k, s)).toArray := ⟨_, rfl⟩
    have hAl : A.size = 33 := by rw [hA]; rfl
    have HLD : Hid ((Instr.loadAt 78 (.pointer (some ⟨g, j * 33, none⟩))).run Tryz.prog wr = .ok (.agg A) wr) := by
     rw [Hid, hA]
     refine run_loadAt_mid wr g (j * 33) 78 (scs (k, s)) _ (fun i v hv => ?_) Tryz.underlying78 rfl infoS
     have hi33 := (List.getElem?_eq_some_iff.1 hv).1
     rw [hDr.at_ he hg hi33]
     exact hv
    have HSN := hid (drpL_snoc (id := id) he)
    dsimp only at HSN
    have HO := hid ho
    have HB := hid hb
    obtain ⟨WB, hWB⟩ : ∃ WB, WB = (wr.alloc (.cells #[.int .i64 0, .int .i64 0, .bool false, .bool false, .int .i64 0, .slice none 0 0, .slice none 0 0, .bool false, .bool false, .slice none 0 0, .bool false, .slice none 0 0, .slice none 0 0, .bool false, .int .i64 0, .slice none 0 0, .slice none 0 0, .bool false, .bool false, .slice none 0 0, .bool false, .slice none 0 0, .slice none 0 0, .bool false, .int .i64 0, .slice none 0 0, .slice none 0 0, .bool false, .bool false, .slice none 0 0, .bool false, .slice none 0 0, .slice none 0 0] 78)).setRow wr.heap.size A := ⟨_, rfl⟩
    have hal := heap_alloc_new wr (.cells #[.int .i64 0, .int .i64 0, .bool false, .bool false, .int .i64 0, .slice none 0 0, .slice none 0 0, .bool false, .bool false, .slice none 0 0, .bool false, .slice none 0 0, .slice none 0 0, .bool false, .int .i64 0, .slice none 0 0, .slice none 0 0, .bool false, .bool false, .slice none 0 0, .bool false, .slice none 0 0, .slice none 0 0, .bool false, .int .i64 0, .slice none 0 0, .slice none 0 0, .bool false, .bool false, .slice none 0 0, .bool false, .slice none 0 0, .slice none 0 0] 78)
    have HST : Hid ((Instr.storeAt 78 (.pointer (some ⟨wr.heap.size, 0, none⟩)) (.agg A)).run Tryz.prog (wr.alloc (.cells #[.int .i64 0, .int .i64 0, .bool false, .bool false, .int .i64 0, .slice none 0 0, .slice none 0 0, .bool false, .bool false, .slice none 0 0, .bool false, .slice none 0 0, .slice none 0 0, .bool false, .int .i64 0, .slice none 0 0, .slice none 0 0, .bool false, .bool false, .slice none 0 0, .bool false, .slice none 0 0, .slice none 0 0, .bool false, .int .i64 0, .slice none 0 0, .slice none 0 0, .bool false, .bool false, .slice none 0 0, .bool false, .slice none 0 0, .slice none 0 0] 78)) = .ok () WB) := by
     rw [Hid]
     rw [hWB]
     simp only [Instr.storeAt, Instr.sureAddr, Sem.run_bind, Sem.run_pure, Result.andThen_ok]
     exact run_storeVar_row (P := Tryz.prog) _ wr.heap.size 78 78 _ A hal (by rw [hAl]; exact infoS) (by rw [hAl]; rfl) (by rw [hA]; exact Array.all_eq_true_iff_forall_mem.2 (fun u hu => rcs_one [(k, s)] u (by rw [rcs_cons, rcs_nil, List.append_nil]; simpa using hu)))
    have hbl : WB.heap[wr.heap.size]? = some (.cells (scs (k, s)).toArray 78 (0, 0)) := by rw [hWB, ← hA]; exact setRow_heap _ _ _ _ _ _ hal
    have hBW : RowKit.Below wr.heap.size wr WB := by rw [hWB]; exact below_setRow (bel_new _ _) (Nat.le_refl _) _
    have HBW := hid hBW
    have HBL0 := hid hbl
    obtain ⟨pb, hpb⟩ : ∃ pb, pb = wr.heap.size := ⟨_, rfl⟩
    have HPB := hid hpb
    have b1 : WB.cell? ⟨wr.heap.size, 1, none⟩ = some (.int .i64 s.par) := by rw [cell_of_row WB _ 1 _ _ _ hbl]; rfl
    have f1 : WB.frozen? ⟨wr.heap.size, 1, none⟩ = false := frozen_of_row WB _ 1 _ _ hbl
    clear he hg hDr ho hb hWB hbl hBW hpb hal hA
    go_upto_if 34 with (first | (refine wpList_load_run rfl 78 (.tmp 29) rfl _ _ rfl HLD.out ?_) | (refine wpList_store_run rfl 78 (.tmp 7) (.tmp 30) rfl _ _ rfl rfl HST.out ?_))
    rw [← HPB.out] at b1 f1 HBL0 HBW
    rw [← HPB.out]
    clear HST HLD hAl
    go_cut [5, 7] (fun vv p wc => wc.ownsRow W.heap.size 78 33 vv (drpL id (L1.take j)).length (rcs (drpL id (L1.take j))) ∧ p = .pointer (some ⟨pb, 0, none⟩) ∧ wc.heap[pb]? = some (.cells (scs (k, selfR id s)).toArray 78 (0, 0)) ∧ RowKit.Below W.heap.size W wc)
    case first =>
     by_cases hpi : s.par = id
     ·have e3 : (s.par == id) = true := beq_iff_eq.2 hpi
      have HX : Hid ((WB.setCell ⟨pb, 1, none⟩ (.int .i64 0)).heap[pb]? = some (.cells (scs (k, selfR id s)).toArray 78 (0, 0))) := by
       rw [Hid, heap_setCell_same WB pb 1 _ _ _ HBL0.out, show selfR id s = { s with par := 0 } by unfold selfR; rw [if_pos hpi]]
       rfl
      have HY : Hid (∀ vv, wr.ownsRow W.heap.size 78 33 vv (drpL id (L1.take j)).length (rcs (drpL id (L1.take j))) → (WB.setCell ⟨pb, 1, none⟩ (.int .i64 0)).ownsRow W.heap.size 78 33 vv (drpL id (L1.take j)).length (rcs (drpL id (L1.take j)))) := fun vv h1 => by
       have h2 := ownsRow_below h1 (by rw [← HPB.out]; exact HBW.out)
       refine ownsRow_set h2 ⟨pb, 1, none⟩ (fun e => ?_) _
       have := (h1.lt pb e).2
       rw [HPB.out] at this
       omega
      have HZ2 : Hid (RowKit.Below W.heap.size W (WB.setCell ⟨pb, 1, none⟩ (.int .i64 0))) := (Below.on HB.out (by rw [← HPB.out]; exact HBW.out)).setCell (p := ⟨pb, 1, none⟩) (by rw [HPB.out]; exact hws) _
      clear hpi
      go_wp2_with fail
      go_meet
      exact ⟨HY.out _ HO.out, rfl, HX.out, HZ2.out⟩
     ·have e3 : (s.par == id) = false := beq_false_of_ne hpi
      have HX : Hid (WB.heap[pb]? = some (.cells (scs (k, selfR id s)).toArray 78 (0, 0))) := by
       rw [Hid, HBL0.out, show selfR id s = s by unfold selfR; rw [if_neg hpi]]
      have HZ2 : Hid (RowKit.Below W.heap.size W WB) := Below.on HB.out (by rw [← HPB.out]; exact HBW.out)
      have HY := hid (ownsRow_below HO.out (by rw [← HPB.out]; exact HBW.out))
      clear hpi
      go_wp2_with fail
      go_meet
      exact ⟨HY.out, rfl, HX.out, HZ2.out⟩
    case rest =>
     obtain ⟨ho, rfl, hbl, hb⟩ := hcut
     obtain ⟨s1, hs1⟩ : ∃ s1, s1 = selfR id s := ⟨_, rfl⟩
     rw [← hs1] at hbl HSN
     have HBL := hid hbl
     have HO9 := hid ho
     have HB9 := hid hb
     have hsz9 := hb.size
     clear ho hb hbl hs1 HO HB HBW HBL0 b1 f1
     by_cases hki : k = id
     ·have n0 : wc.cell? ⟨pb, 0, none⟩ = some (.int .i64 k) := by rw [cell_of_row wc pb 0 _ _ _ HBL.out]; rfl
      have e4 : (k != id) = false := by simpa using hki
      rw [if_pos hki, List.append_nil] at HSN
      clear hki
      go_wp2
      go_roundw
      case rel => exact ⟨j + 1, by go_num, by omega, by rw [HSN.out]; exact HO9.out, HB9.out⟩
      case measure => simp [numOf]; omega
     ·have e4 : (k != id) = true := by simpa using hki
      rw [if_neg hki] at HSN
      have n0 : wc.cell? ⟨pb, 0, none⟩ = some (.int .i64 k) := by rw [cell_of_row wc pb 0 _ _ _ HBL.out]; rfl
      have HL12 : Hid ((Instr.loadAt 78 (.pointer (some ⟨pb, 0, none⟩))).run Tryz.prog wc = .ok (.agg #[.int .i64 k, .int .i64 s1.par, .bool s1.syn, .bool s1.pe.at_, .int .i64 s1.pe.buf, .slice s1.pe.dm.a s1.pe.dm.n s1.pe.dm.c, .slice s1.pe.fr.a s1.pe.fr.n s1.pe.fr.c, .bool s1.pe.inp, .bool s1.pe.all, .slice s1.pe.rg.a s1.pe.rg.n s1.pe.rg.c, .bool s1.pe.ord, .slice s1.pe.od.a s1.pe.od.n s1.pe.od.c, .slice s1.pe.pl.a s1.pe.pl.n s1.pe.pl.c, .bool s1.ca.at_, .int .i64 s1.ca.buf, .slice s1.ca.dm.a s1.ca.dm.n s1.ca.dm.c, .slice s1.ca.fr.a s1.ca.fr.n s1.ca.fr.c, .bool s1.ca.inp, .bool s1.ca.all, .slice s1.ca.rg.a s1.ca.rg.n s1.ca.rg.c, .bool s1.ca.ord, .slice s1.ca.od.a s1.ca.od.n s1.ca.od.c, .slice s1.ca.pl.a s1.ca.pl.n s1.ca.pl.c, .bool s1.no.at_, .int .i64 s1.no.buf, .slice s1.no.dm.a s1.no.dm.n s1.no.dm.c, .slice s1.no.fr.a s1.no.fr.n s1.no.fr.c, .bool s1.no.inp, .bool s1.no.all, .slice s1.no.rg.a s1.no.rg.n s1.no.rg.c, .bool s1.no.ord, .slice s1.no.od.a s1.no.od.n s1.no.od.c, .slice s1.no.pl.a s1.no.pl.n s1.no.pl.c]) wc) := by
       rw [Hid]
       simp only [Instr.loadAt, Instr.sureAddr, Sem.run_bind, Sem.run_pure, Result.andThen_ok]
       exact run_loadVar_row (P := Tryz.prog) wc pb 78 78 (scs (k, s1)).toArray _ _ HBL.out Tryz.underlying78 rfl infoS
      have hBN := bel_new wc (.cells (scs (k, s1)).toArray 78)
      have HO2 := hid (ownsRow_below HO9.out hBN)
      have HS2 := hid (srcS wc (k, s1))
      have HB2 := hid (Below.on HB9.out hBN)
      have hsz2 := HB2.out.size
      have HG2 : Hid (∀ vv v' u, (wc.alloc (.cells (scs (k, s1)).toArray 78)).ownsRow W.heap.size 78 33 vv (drpL id (L1.take j)).length (rcs (drpL id (L1.take j))) → u.ownsRow W.heap.size 78 33 v' ((drpL id (L1.take j)).length + 1) (rcs (drpL id (L1.take j)) ++ rcs [(k, s1)]) → (wc.alloc (.cells (scs (k, s1)).toArray 78)).grownBy u vv.ownBlock → u.ownsRow W.heap.size 78 33 v' (drpL id (L1.take (j + 1))).length (rcs (drpL id (L1.take (j + 1)))) ∧ RowKit.Below W.heap.size W u) := fun vv v' u h1 h2 h3 => by
       rw [HSN.out, List.length_append, rcs_append]
       exact ⟨h2, HB2.out.grown h3 HB2.out.size (fun k hk => (h1.lt k hk).1)⟩
      generalize (drpL id (L1.take j)).length = m9 at *
      clear hki hBN HAT HBL
      go_wp2_with (first | (refine wpList_load_run rfl 78 (.tmp 7) rfl _ _ rfl HL12.out ?_) | (at_builtin; refine wpList_append_own_src _ rfl (.tmp 40) (.tmp 42) 50 50 rfl W.heap.size 78 i0 (.agg (scs (0, ⟨0, false, sx0, sx0, sx0⟩)).toArray) 33 480 Tryz.underlying50 hi hz0 hz1 hz2 rfl _ _ _ rfl HO2.out _ _ _ rfl HS2.out (by simp only [maxLen]; omega) (fitsR (by omega)) hsz2 ?_; intro v3 w3 o3 g3; obtain ⟨hR3, hB3⟩ := HG2.out _ _ _ HO2.out o3 g3; have HR3 := hid hR3; have HB3 := hid hB3; clear o3 g3 hR3 hB3))
      go_roundw
      case rel => exact ⟨j + 1, by go_num, by omega, HR3.out, HB3.out⟩
      case measure => simp [numOf]; omega
   ·have e1 : decide ((j : Int) < n) = false := decide_eq_false (by omega)
    obtain rfl : j = n := by omega
    have htk : L1.take j = L1 := List.take_of_length_le (by rw [← HNN.out]; exact Nat.le_refl _)
    rw [htk] at ho
    obtain ⟨a9, c9, rfl⟩ := row_form ho
    have f0 := frozen_of_row wr q 0 _ _ hDr.obj
    have HE := hid (HFIN.out W wr L1 _ HD.out HA.out HK.out ho hb)
    clear ho hb hDr htk
    go_wp2
    go_ret
    exact HE.out
end
section
def sxb (x : Sx) : List Nat := [x.dm, x.fr, x.rg, x.od, x.pl].flatMap fun z => if 0 < z.n then z.bl else []
theorem not_sxb {x : Sx} {b : Nat} : b ∉ sxb x ↔ x.Off b := by
 have one : ∀ z ∈ [x.dm, x.fr, x.rg, x.od, x.pl], b ∉ sxb x → ∀ y, z.a = some y → 0 < z.n → y.block ≠ b := fun z hz hn y hy h0 e => hn (List.mem_flatMap.2 ⟨z, hz, by rw [if_pos h0]; exact bl_of.2 ⟨y, hy, e⟩⟩)
 constructor
 ·intro h
  exact ⟨one _ (by simp) h, one _ (by simp) h, one _ (by simp) h, one _ (by simp) h, one _ (by simp) h⟩
 ·intro h hm
  obtain ⟨z, hz, hb⟩ := List.mem_flatMap.1 hm
  split at hb
  ·rename_i h0
   obtain ⟨y, hy, e⟩ := bl_of.1 hb
   simp only [List.mem_cons, List.not_mem_nil, or_false] at hz
   rcases hz with rfl | rfl | rfl | rfl | rfl
   ·exact h.dm y hy h0 e
   ·exact h.fr y hy h0 e
   ·exact h.rg y hy h0 e
   ·exact h.od y hy h0 e
   ·exact h.pl y hy h0 e
  ·cases hb
def sbl (L : Ro) : List Nat := L.flatMap fun e => sxb e.2.pe ++ (sxb e.2.ca ++ sxb e.2.no)
theorem not_sbl {L : Ro} {b : Nat} : b ∉ sbl L ↔ ∀ e ∈ L, e.2.Off b := by
 constructor
 ·intro h e he
  have h1 : b ∉ sxb e.2.pe ++ (sxb e.2.ca ++ sxb e.2.no) := fun hm => h (List.mem_flatMap.2 ⟨e, he, hm⟩)
  simp only [List.mem_append, not_or] at h1
  exact ⟨not_sxb.1 h1.1, not_sxb.1 h1.2.1, not_sxb.1 h1.2.2⟩
 ·intro h hm
  obtain ⟨e, he, hb⟩ := List.mem_flatMap.1 hm
  simp only [List.mem_append] at hb
  have h1 := h e he
  rcases hb with hb | hb | hb
  ·exact not_sxb.2 h1.pe hb
  ·exact not_sxb.2 h1.ca hb
  ·exact not_sxb.2 h1.no hb
theorem Sx.Ok.kpz {w w' : World} {x : Sx} {Y : List Nat} (h : x.Ok w) (hk : Kp Y w w') (hX : ∀ b ∈ Y, x.Off b) : x.Ok w' :=
 ⟨h.dm.kp hk (fun y e h0 hm => (hX _ hm).dm y e h0 rfl), h.fr.kp hk (fun y e h0 hm => (hX _ hm).fr y e h0 rfl), h.rg.kp hk (fun y e h0 hm => (hX _ hm).rg y e h0 rfl), h.od.kp hk (fun y e h0 hm => (hX _ hm).od y e h0 rfl), h.pl.kp hk (fun y e h0 hm => (hX _ hm).pl y e h0 rfl)⟩
theorem Sx.Ok.lt {w : World} {x : Sx} (h : x.Ok w) {b : Nat} (hb : w.heap.size ≤ b) : x.Off b := ⟨rdm_off h.dm hb, rdm_off h.fr hb, rdm_off h.rg hb, rdm_off h.od hb, rdm_off h.pl hb⟩
def dfl (B q : Nat) (v : Value) (L : Ro) : List Nat := q :: (v.ownBlock.toList ++ (sbl L).filter fun b => decide (B ≤ b))
theorem mem_dfl {B q : Nat} {v : Value} {L : Ro} {b : Nat} : b ∈ dfl B q v L ↔ b = q ∨ v.ownBlock = some b ∨ (b ∈ sbl L ∧ B ≤ b) := by
 rw [dfl, List.mem_cons, List.mem_append, List.mem_filter, Option.mem_toList]
 simp
def Dq (w0 : World) (q mm : Nat) (F : Fo) : Th := fun w Z => RowKit.Below w0.heap.size w0 w ∧ Fok mm F ∧ w0.heap.size ≤ q ∧ ∃ v L, Df w0.heap.size [] w q v L ∧ abs L = F ∧ Z = dfl w0.heap.size q v L
variable {w0 w w' : World} {q mm : Nat} {F G : Fo} {Z : List Nat} {v : Value} {L : Ro}
theorem dq_ft (w0 : World) (q mm : Nat) (F : Fo) : Ft w0.heap.size (Dq w0 q mm F) := by
 refine ⟨fun {w X} h b hb => ?_, fun {w w' X Y} h hk hY hX => ?_⟩
 ·obtain ⟨_, _, hq, v, L, h1, _, rfl⟩ := h
  rcases mem_dfl.1 hb with rfl | hb | ⟨hb, h2⟩
  ·exact ⟨hq, h1.lt⟩
  ·exact h1.row.lt b hb
  ·refine ⟨h2, ?_⟩
   rcases Nat.lt_or_ge b w.heap.size with h3 | h3
   ·exact h3
   ·exact absurd hb (not_sbl.2 fun e he => ⟨(h1.ok e he).pe.lt h3, (h1.ok e he).ca.lt h3, (h1.ok e he).no.lt h3⟩)
 ·obtain ⟨g1, g2, hq, v, L, h1, h2, rfl⟩ := h
  have hoff : ∀ b ∈ Y, ∀ e ∈ L, e.2.Off b := fun b hb => not_sbl.1 fun hm => hX b (mem_dfl.2 (.inr (.inr ⟨hm, hY b hb⟩))) hb
  exact ⟨g1.trans (hk.below g1.size hY), g2, hq, v, L, ⟨hk.var h1.obj (hX q (mem_dfl.2 (.inl rfl))), hk.row h1.row (fun k hk' => hX k (mem_dfl.2 (.inr (.inl hk')))), h1.ne, fun e he => ⟨(h1.ok e he).pe.kpz hk (fun b hb => (hoff b hb e he).pe), (h1.ok e he).ca.kpz hk (fun b hb => (hoff b hb e he).ca), (h1.ok e he).no.kpz hk (fun b hb => (hoff b hb e he).no)⟩, h1.off⟩, h2, rfl⟩
theorem dq_mono {n : Nat} (h : Dq w0 q mm F w Z) (hn : mm ≤ n) : Dq w0 q n F w Z := by
 obtain ⟨g1, g2, h⟩ := h
 exact ⟨g1, g2.mono hn, h⟩
def cmp (B : Nat) (w : World) (L : Ro) : List Nat := (List.range w.heap.size).filter fun b => decide (B ≤ b ∧ b ∉ sbl L)
theorem mem_cmp {B b : Nat} : b ∈ cmp B w L ↔ b < w.heap.size ∧ B ≤ b ∧ b ∉ sbl L := by simp [cmp]
theorem Df.cmp (h : Df w0.heap.size [] w q v L) : Df w0.heap.size (cmp w0.heap.size w L) w q v L := ⟨h.obj, h.row, h.ne, h.ok, fun e he P hP => by
 rw [List.mem_cons, List.mem_append] at hP
 rcases hP with rfl | hP | hP
 ·exact h.off e he _ (by simp)
 ·exact h.off e he P (by simp [hP])
 ·exact not_sbl.1 (mem_cmp.1 hP).2.2 e he⟩
theorem dqx {n : Nat} {v' : Value} {L' : Ro} (g1 : RowKit.Below w0.heap.size w0 w) (hq : w0.heap.size ≤ q) (h : Df w0.heap.size [] w q v L) (h' : Df w0.heap.size (cmp w0.heap.size w L) w' q v' L') (ha : abs L' = G) (hk : Kp (q :: v.ownBlock.toList) w w') (hv : v'.ownBlock = v.ownBlock ∨ ∀ g, v'.ownBlock = some g → w.heap.size ≤ g) (hok : Fok n G) : Nx (Dq w0 q n G) (dfl w0.heap.size q v L) w w' := by
 have hX : ∀ b ∈ q :: v.ownBlock.toList, b ∈ dfl w0.heap.size q v L := fun b hb => by
  rcases List.mem_cons.1 hb with rfl | hb
  ·exact mem_dfl.2 (.inl rfl)
  ·exact mem_dfl.2 (.inr (.inl (by simpa using hb)))
 have hlo : ∀ b ∈ q :: v.ownBlock.toList, w0.heap.size ≤ b := fun b hb => by
  rcases List.mem_cons.1 hb with rfl | hb
  ·exact hq
  ·exact (h.row.lt b (by simpa using hb)).1
 refine ⟨dfl w0.heap.size q v' L', ⟨g1.trans (hk.below g1.size hlo), hok, hq, v', L', ⟨h'.obj, h'.row, h'.ne, h'.ok, fun e he P hP => h'.off e he P (by simp only [List.append_nil] at hP; rw [List.mem_cons] at hP ⊢; exact hP.imp id (fun h => List.mem_append_left _ h))⟩, ha, rfl⟩, hk.mono (fun b hb _ => hX b hb), fun b hb => ?_⟩
 rcases mem_dfl.1 hb with rfl | hb | ⟨hb, h2⟩
 ·exact .inl (mem_dfl.2 (.inl rfl))
 ·rcases hv with h3 | h3
  ·exact .inl (mem_dfl.2 (.inr (.inl (by rw [← h3]; exact hb))))
  ·exact .inr (h3 b hb)
 ·rcases Nat.lt_or_ge b w.heap.size with h3 | h3
  ·by_cases h4 : b ∈ sbl L
   ·exact .inl (mem_dfl.2 (.inr (.inr ⟨h4, h2⟩)))
   ·exact absurd hb (not_sbl.2 fun e he => h'.off e he b (by rw [List.mem_cons, List.mem_append]; exact .inr (.inr (mem_cmp.2 ⟨h3, h2, h4⟩))))
  ·exact .inr h3
theorem cmp_lt (B : Nat) (w : World) (L : Ro) : ∀ P ∈ cmp B w L, P < w.heap.size := fun _ hP => (mem_cmp.1 hP).1
theorem kp_q {X : List Nat} (h : Kp X w w') : Kp (q :: X) w w' := h.mono (fun _ hb _ => List.mem_cons_of_mem _ hb)
theorem dq_new (w0 w : World) (hb : Below w0.heap.size w0 w) : Dq w0 w.heap.size 0 [] (w.alloc (.cells #[.slice none 0 0] 52)) [w.heap.size] :=
 ⟨Below.on hb ((Below.refl _ _).alloc (Nat.le_refl _) _), fok_nil, hb.size, .slice none 0 0, [], ⟨heap_alloc_new w _, World.ownsRow_nil _ _ _ _, by simp [Value.ownBlock], (fun e h => by cases h), (fun e h => by cases h)⟩, rfl, by simp [dfl, sbl, Value.ownBlock]⟩
theorem dq_add (_hm : mm ≤ 900) (id : Int) (hi : Bt id) : Ct Tryz.prog 35 #[.pointer (some ⟨q, 0, none⟩), .int .i64 id] (Dq w0 q mm F) (Dq w0 q (mm + 1) (addF F id)) (.int .i64 (addE F id : Nat)) := fun w Z h => by
 obtain ⟨g1, g4, hq, v, L, hD, rfl, rfl⟩ := h
 exact (radd_any hD.cmp (cmp_lt _ _ _) g1.size (by rw [← abs_length L]; exact g4.inv.len) id).mono fun _ _ ⟨h1, v', L', h2, h3, h4, h5⟩ => ⟨h1, dqx g1 hq hD h2 h3 h4 h5 (g4.add hi)⟩
theorem dq_drp (hm : mm ≤ 900) (id : Int) : Ct Tryz.prog 37 #[.pointer (some ⟨q, 0, none⟩), .int .i64 id] (Dq w0 q mm F) (Dq w0 q (mm + 1) (drpF F id)) (.int .i64 (drpE F id : Nat)) := fun w Z h => by
 obtain ⟨g1, g4, hq, v, L, hD, rfl, rfl⟩ := h
 exact (rdropf_any hD.cmp (cmp_lt _ _ _) g1.size g4.inv g4.szf hm id).mono fun _ _ ⟨h1, v', L', h2, h3, h4, h5⟩ => ⟨h1, dqx g1 hq hD h2 h3 h4 h5 (g4.drp id)⟩
theorem dq_sub (hm : mm ≤ 900) (id y : Int) : Ct Tryz.prog 39 #[.pointer (some ⟨q, 0, none⟩), .int .i64 id, .int .i64 y] (Dq w0 q mm F) (Dq w0 q (mm + 1) (subFB F id y)) (.int .i64 (subEB F id y : Nat)) := fun w Z h => by
 obtain ⟨g1, g4, hq, v, L, hD, rfl, rfl⟩ := h
 have hc := rsub_any hD.cmp (cmp_lt _ _ _) g4.inv g4.szf hm id y
 rw [g4.inv.subE, g4.inv.subF] at hc
 exact hc.mono fun _ _ ⟨h1, L', h2, h3, h4⟩ => ⟨h1, dqx g1 hq hD h2 h3 (kp_q h4) (.inl rfl) (by rw [← g4.inv.subF]; exact g4.sub id y)⟩
theorem dq_uns (hm : mm ≤ 900) (id : Int) : Ct Tryz.prog 41 #[.pointer (some ⟨q, 0, none⟩), .int .i64 id] (Dq w0 q mm F) (Dq w0 q (mm + 1) (unsF F id)) (.int .i64 (unsE F id : Nat)) := fun w Z h => by
 obtain ⟨g1, g4, hq, v, L, hD, rfl, rfl⟩ := h
 exact (runsub_any hD.cmp (cmp_lt _ _ _) g4.inv g4.szf hm id).mono fun _ _ ⟨h1, L', h2, h3, h4⟩ => ⟨h1, dqx g1 hq hD h2 h3 (kp_q h4) (.inl rfl) (g4.uns id)⟩
theorem dq_pos (hm : mm ≤ 900) (id x y : Int) : Ct Tryz.prog 48 #[.pointer (some ⟨q, 0, none⟩), .int .i64 id, .int .i64 x, .int .i64 y] (Dq w0 q mm F) (Dq w0 q (mm + 1) (posF F id x y)) (.int .i64 (unsE F id : Nat)) := fun w Z h => by
 obtain ⟨g1, g4, hq, v, L, hD, rfl, rfl⟩ := h
 exact (rpos_any hD.cmp (cmp_lt _ _ _) g4.inv g4.szf hm id x y).mono fun _ _ ⟨h1, L', h2, h3, h4⟩ => ⟨h1, dqx g1 hq hD h2 h3 (kp_q h4) (.inl rfl) (g4.posn id x y)⟩
theorem dq_put (hm : mm ≤ 900) (id y : Int) (b : Nat) (hb : b ≤ 1) : Ct Tryz.prog 50 #[.pointer (some ⟨q, 0, none⟩), .int .i64 id, .int .i64 y, .int .i64 b] (Dq w0 q mm F) (Dq w0 q (mm + 1) (putF F id y b)) (.int .i64 (putE F id y b : Nat)) := fun w Z h => by
 obtain ⟨g1, g4, hq, v, L, hD, rfl, rfl⟩ := h
 exact (rputf_any hD.cmp (cmp_lt _ _ _) g4.inv g4.szf hm id y b hb).mono fun _ _ ⟨h1, L', h2, h3, h4⟩ => ⟨h1, dqx g1 hq hD h2 h3 (kp_q h4) (.inl rfl) (g4.put id y b)⟩
theorem dq_com (hm : mm ≤ 900) (id : Int) (w : World) (Z : List Nat) (h : Dq w0 q mm F w Z) : Calls Tryz.prog 55 #[.pointer (some ⟨q, 0, none⟩), .int .i64 id] w fun e w' => (∃ a c, e = .returned (.tuple #[.slice a (comB F id).2.length c, .int .i64 (hasE F id : Nat)]) ∧ Rz w' a (comB F id).2.length c (comB F id).2) ∧ Nx (Dq w0 q (mm + 1) (comB F id).1) Z w w' := by
 obtain ⟨g1, g4, hq, v, L, hD, rfl, rfl⟩ := h
 have hc := rcommit_any hD.cmp (cmp_lt _ _ _) g4.inv g4.nof g4.szf hm id
 rw [g4.inv.comF] at hc
 refine hc.mono fun _ _ ⟨v', L', h1, h2, h3, h4, h5⟩ => ?_
 obtain ⟨a, c, rfl, hr⟩ := own_rz0 h5
 exact ⟨⟨a, c, h1, hr⟩, dqx g1 hq hD h2 h3 (kp_q h4) (.inl rfl) (by rw [← g4.inv.comF]; exact g4.com 41 id)⟩
end
end Go.Proofs.YtkjempffidndeaaGreatDoor
