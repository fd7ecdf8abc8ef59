/- Lemmas that the proof leans on. -/
import Derived.Test.YtdgknofpkafppaaGreatDoorB34
namespace Go.Proofs.YtdgknofpkafppaaGreatDoor
open Go Go.RowKit
set_option maxRecDepth 100000
set_option maxHeartbeats 4000000
section
variable {base : Nat} {X : List Nat} {w : World} {q : Nat} {v : Value} {L : Ro}
theorem wpList_load_run {P : Program} {ops : Array Oper} {rest : List Oper} {op : Oper} {a : Act} {w : World} {Q : Exit → Act → World → Prop} (hgd : op.guard = none) (ty : TypeId) (x : Operand) (ho : op.op = .load ty x) (p u : Value) (hx : a.eval x = p) (hr : (Instr.loadAt ty p).run P w = .ok u w)
  (h : wpList P ops Q rest (a.put op.dst u) w) : wpList P ops Q (op :: rest) a w :=
 wpList_plain hgd fun _ hK => by
  unfold Oper.wp execOp
  simp only [ho, hx, Sem.run_bind, hr, Result.andThen_ok, Sem.run_pure]
  exact hK _ _ h
theorem wpList_store_run {P : Program} {ops : Array Oper} {rest : List Oper} {op : Oper} {a : Act} {w w' : World} {Q : Exit → Act → World → Prop} (hgd : op.guard = none) (ty : TypeId) (x y : Operand) (ho : op.op = .store ty x y) (p u : Value) (hx : a.eval x = p) (hy : a.eval y = u) (hr : (Instr.storeAt ty p u).run P w = .ok () w')
  (h : wpList P ops Q rest (a.put op.dst undef) w') : wpList P ops Q (op :: rest) a w :=
 wpList_plain hgd fun _ hK => by
  unfold Oper.wp execOp
  simp only [ho, hx, hy, Sem.run_bind, hr, Result.andThen_ok, Sem.run_pure]
  exact hK _ _ h
def selfR (id : Int) (s : Sr) : Sr := { s with par := if s.par = id then 0 else s.par }
theorem selfR_f (id : Int) (s : Sr) : (selfR id s).f = selfS id s.f := by
 show Sf.mk (if s.par = id then 0 else s.par) _ _ _ _ = _
 unfold selfS
 show _ = if s.par = id then _ else _
 by_cases h : s.par = id
 ·rw [if_pos h, if_pos h]
  rfl
 ·rw [if_neg h, if_neg h]
  rfl
def drpL (id : Int) (L : Ro) : Ro := (rm L id).map fun e => (e.1, selfR id e.2)
theorem abs_rm (L : Ro) (id : Int) : abs (rm L id) = rm (abs L) id := by
 rw [abs, rm, rm, abs, List.filter_map]
 rfl
theorem drpL_abs (id : Int) (L : Ro) : abs (drpL id L) = (rm (abs L) id).map fun e => (e.1, selfS id e.2) := by
 rw [← abs_rm, drpL, abs, abs, List.map_map, List.map_map]
 refine List.map_congr_left fun e _ => ?_
 simp only [Function.comp, selfR_f]
theorem drpL_snoc {id : Int} {L : Ro} {j : Nat} {e : Int × Sr} (h : L[j]? = some e) : drpL id (L.take (j + 1)) = drpL id (L.take j) ++ if e.1 = id then [] else [(e.1, selfR id e.2)] := by
 rw [List.take_add_one, h, drpL, rm, List.filter_append, List.map_append]
 congr 1
 rw [Option.toList_some, List.filter_cons]
 by_cases he : e.1 = id
 ·rw [if_pos he, if_neg (by simpa using he)]
  rfl
 ·rw [if_neg he, if_pos (by simpa using he)]
  rfl
theorem mem_drpL {id : Int} {L : Ro} {e : Int × Sr} (h : e ∈ drpL id L) : ∃ t, (e.1, t) ∈ L ∧ e.2 = selfR id t := by
 obtain ⟨x, hx, rfl⟩ := List.mem_map.1 h
 exact ⟨x.2, mem_rm hx, rfl⟩
theorem drpL_length (id : Int) (L : Ro) : (drpL id L).length ≤ L.length := by
 rw [drpL, List.length_map]
 exact rm_length _ _
theorem rdropf_any (h : Df base X w q v L) (hX : ∀ P ∈ X, P < w.heap.size) (hB : base ≤ w.heap.size) (hI : Inv (abs L)) {m : Nat} (hZ : Szf m (abs L)) (hm : m ≤ 900) (id : Int) :
  Calls Tryz.prog 30 #[.pointer (some ⟨q, 0, none⟩), .int .i64 id] w (RfN base X w q v (drpE (abs L) id) (drpF (abs L) id)) := by
 obtain ⟨i0, hi, hz0, hz1, hz2⟩ := infoMP infoSr
 have CS := hid (rs_any h id)
 cases hs : gt L id with
 | none =>
  have HE : Hid (RfN base X w q v (drpE (abs L) id) (drpF (abs L) id) (.returned (.int .i64 5)) w) :=
   ⟨by rw [drpE, gt_abs, hs]; rfl, v, L, h, by rw [drpF, gt_abs, hs]; rfl, Kp.refl _ _, .inl rfl⟩
  have HN := hid hs
  clear h hX hI hZ hs
  go_enter Tryz.func30, Tryz.ntmps30
  go_wp2_with fail
  refine CS.out.mono ?_
  rintro e w1 ⟨r, rfl, hr, rfl⟩
  obtain rfl := hr.no HN.out
  clear hr CS
  go_wp2
  go_ret
  exact HE.out
 | some s0 =>
  have CU := hid (runsub_any h hX hI hZ hm id)
  have HN := hid hs
  have hlen := hI.len
  rw [abs_length] at hlen
  have HFIN : Hid (∀ (w1 w9 : World) (L1 : Ro) (v9 : Value), Df base X w1 q v L1 → abs L1 = unsF (abs L) id → Kp v.ownBlock.toList w w1 → w9.ownsRow w1.heap.size 67 33 v9 (drpL id L1).length (rcs (drpL id L1)) → Below w1.heap.size w1 w9 → RfN base X w q v (drpE (abs L) id) (drpF (abs L) id) (.returned (.int .i64 0)) (w9.setCell ⟨q, 0, none⟩ v9)) := fun w1 w9 L1 v9 hD ha hk o9 hb => by
   have hok : ∀ e ∈ drpL id L1, e.2.Ok w9 := fun e he => by
    obtain ⟨t, ht, e2⟩ := mem_drpL he
    have := (hD.ok _ ht).on hb
    rw [e2]
    exact ⟨this.pe, this.ca, this.no⟩
   have hof : ∀ e ∈ drpL id L1, ∀ P ∈ q :: (v9.ownBlock.toList ++ X), e.2.Off P := fun e he P hP => by
    obtain ⟨t, ht, e2⟩ := mem_drpL he
    have h1 : t.Off P := by
     rcases List.mem_cons.1 hP with hP | hP
     ·exact hD.off _ ht P (by simp [hP])
     ·rcases List.mem_append.1 hP with hP | hP
      ·exact off_olds (hD.ok _ ht) (o9.lt P (by simpa using hP)).1
      ·exact hD.off _ ht P (by simp [hP])
    rw [e2]
    exact ⟨h1.pe, h1.ca, h1.no⟩
   obtain ⟨hD9, hK9⟩ := hD.row' hb (Nat.le_trans hB hk.size) o9 hok hof
   refine ⟨by rw [drpE, gt_abs, hs]; rfl, v9, _, hD9, ?_, ((hk.mono (fun k hk _ => by simp [hk])).trans (kp_of_below hb _) (fun k hk _ => hk)).trans hK9 (fun k hk _ => by simp only [List.mem_cons, List.not_mem_nil, or_false] at hk; simp [hk]), .inr fun g hg => Nat.le_trans hk.size (o9.lt g hg).1⟩
   rw [drpL_abs, ha, drpF_eq (s := s0.f) (by rw [gt_abs, hs]; rfl)]
  have HLL : Hid (∀ L1 : Ro, abs L1 = unsF (abs L) id → L1.length ≤ 40) := fun L1 h1 => by
   rw [← abs_length, h1, unsF_length, abs_length]
   exact hlen
  clear h hX hI hZ hs
  go_enter Tryz.func30, Tryz.ntmps30
  go_wp2_with fail
  refine CS.out.mono ?_
  rintro e w0 ⟨r, rfl, hr, hw0⟩
  obtain rfl : w = w0 := hw0.symm
  obtain ⟨g0, i, rfl, hg0, hi0⟩ := hr.ys HN.out
  clear hr CS hw0 hg0 hi0
  go_wp2_with fail
  refine CU.out.mono ?_
  rintro e W ⟨rfl, L1, hD, ha, hk⟩
  obtain ⟨a, c, hv, hle, hmx, c0, hat⟩ := hD.val
  simp only [maxLen] at hmx
  have hql := hD.lt
  have hl1 := HLL.out L1 ha
  have HD := hid hD
  have HA := hid ha
  have HK := hid hk
  have HAT := hid hat
  obtain ⟨n, hn⟩ : ∃ n, n = L1.length := ⟨_, rfl⟩
  have HNN := hid hn
  rw [← hn] at c0 hle hl1
  clear hD ha hk hat hv hn CU
  go_wp2
  go_loopw [5, 6] (fun vv i wr => ∃ j : Nat, i = .int .i64 j ∧ j ≤ n ∧ wr.ownsRow W.heap.size 67 33 vv (drpL id (L1.take j)).length (rcs (drpL id (L1.take j))) ∧ RowKit.Below W.heap.size W wr) (fun _ i _ => n - (numOf i).toNat)
  case atStart => exact ⟨0, rfl, by omega, World.ownsRow_nil _ _ _ _, Below.refl _ _⟩
  case round =>
   obtain ⟨j, rfl, hj, ho, hb⟩ := hrel
   have hDr := HD.out.on hb
   rw [← hb.cell hql] at c0
   have hws := hb.size
   have hdl : (drpL id (L1.take j)).length ≤ j := Nat.le_trans (drpL_length _ _) (List.length_take_le _ _)
   by_cases hgo : j < n
   ·have e1 : decide ((j : Int) < n) = true := decide_eq_true (by omega)
    have e2 : (j : Int) < n := by omega
    obtain ⟨⟨k, s⟩, he⟩ : ∃ e, L1[j]? = some e := ⟨_, List.getElem?_eq_getElem (by rw [← HNN.out]; exact hgo)⟩
    obtain ⟨g, rfl, hg, -⟩ := HAT.out j (k, s) he
    obtain ⟨A, hA⟩ : ∃ A, A = (scs (k, s)).toArray := ⟨_, rfl⟩
    have hAl : A.size = 33 := by rw [hA]; rfl
    have HLD : Hid ((Instr.loadAt 67 (.pointer (some ⟨g, j * 33, none⟩))).run Tryz.prog wr = .ok (.agg A) wr) := by
     rw [Hid, hA]
     refine run_loadAt_mid wr g (j * 33) 67 (scs (k, s)) _ (fun i v hv => ?_) Tryz.underlying67 rfl infoS
     have hi33 := (List.getElem?_eq_some_iff.1 hv).1
     rw [hDr.at_ he hg hi33]
     exact hv
    have HSN := hid (drpL_snoc (id := id) he)
    dsimp only at HSN
    have HO := hid ho
    have HB := hid hb
    obtain ⟨WB, hWB⟩ : ∃ WB, WB = (wr.alloc (.cells #[.int .i64 0, .int .i64 0, .bool false, .bool false, .int .i64 0, .slice none 0 0, .slice none 0 0, .bool false, .bool false, .slice none 0 0, .bool false, .slice none 0 0, .slice none 0 0, .bool false, .int .i64 0, .slice none 0 0, .slice none 0 0, .bool false, .bool false, .slice none 0 0, .bool false, .slice none 0 0, .slice none 0 0, .bool false, .int .i64 0, .slice none 0 0, .slice none 0 0, .bool false, .bool false, .slice none 0 0, .bool false, .slice none 0 0, .slice none 0 0] 67)).setRow wr.heap.size A := ⟨_, rfl⟩
    have hal := heap_alloc_new wr (.cells #[.int .i64 0, .int .i64 0, .bool false, .bool false, .int .i64 0, .slice none 0 0, .slice none 0 0, .bool false, .bool false, .slice none 0 0, .bool false, .slice none 0 0, .slice none 0 0, .bool false, .int .i64 0, .slice none 0 0, .slice none 0 0, .bool false, .bool false, .slice none 0 0, .bool false, .slice none 0 0, .slice none 0 0, .bool false, .int .i64 0, .slice none 0 0, .slice none 0 0, .bool false, .bool false, .slice none 0 0, .bool false, .slice none 0 0, .slice none 0 0] 67)
    have HST : Hid ((Instr.storeAt 67 (.pointer (some ⟨wr.heap.size, 0, none⟩)) (.agg A)).run Tryz.prog (wr.alloc (.cells #[.int .i64 0, .int .i64 0, .bool false, .bool false, .int .i64 0, .slice none 0 0, .slice none 0 0, .bool false, .bool false, .slice none 0 0, .bool false, .slice none 0 0, .slice none 0 0, .bool false, .int .i64 0, .slice none 0 0, .slice none 0 0, .bool false, .bool false, .slice none 0 0, .bool false, .slice none 0 0, .slice none 0 0, .bool false, .int .i64 0, .slice none 0 0, .slice none 0 0, .bool false, .bool false, .slice none 0 0, .bool false, .slice none 0 0, .slice none 0 0] 67)) = .ok () WB) := by
     rw [Hid]
     rw [hWB]
     simp only [Instr.storeAt, Instr.sureAddr, Sem.run_bind, Sem.run_pure, Result.andThen_ok]
     exact run_storeVar_row (P := Tryz.prog) _ wr.heap.size 67 67 _ A hal (by rw [hAl]; exact infoS) (by rw [hAl]; rfl) (by rw [hA]; exact Array.all_eq_true_iff_forall_mem.2 (fun u hu => rcs_one [(k, s)] u (by rw [rcs_cons, rcs_nil, List.append_nil]; simpa using hu)))
    have hbl : WB.heap[wr.heap.size]? = some (.cells (scs (k, s)).toArray 67 (0, 0)) := by rw [hWB, ← hA]; exact setRow_heap _ _ _ _ _ _ hal
    have hBW : RowKit.Below wr.heap.size wr WB := by rw [hWB]; exact below_setRow (bel_new _ _) (Nat.le_refl _) _
    have HBW := hid hBW
    have HBL0 := hid hbl
    obtain ⟨pb, hpb⟩ : ∃ pb, pb = wr.heap.size := ⟨_, rfl⟩
    have HPB := hid hpb
    have b1 : WB.cell? ⟨wr.heap.size, 1, none⟩ = some (.int .i64 s.par) := by rw [cell_of_row WB _ 1 _ _ _ hbl]; rfl
    have f1 : WB.frozen? ⟨wr.heap.size, 1, none⟩ = false := frozen_of_row WB _ 1 _ _ hbl
    clear he hg hDr ho hb hWB hbl hBW hpb hal hA
    go_upto_if 34 with (first | (refine wpList_load_run rfl 67 (.tmp 29) rfl _ _ rfl HLD.out ?_) | (refine wpList_store_run rfl 67 (.tmp 7) (.tmp 30) rfl _ _ rfl rfl HST.out ?_))
    rw [← HPB.out] at b1 f1 HBL0 HBW
    rw [← HPB.out]
    clear HST HLD hAl
    go_cut [5, 7] (fun vv p wc => wc.ownsRow W.heap.size 67 33 vv (drpL id (L1.take j)).length (rcs (drpL id (L1.take j))) ∧ p = .pointer (some ⟨pb, 0, none⟩) ∧ wc.heap[pb]? = some (.cells (scs (k, selfR id s)).toArray 67 (0, 0)) ∧ RowKit.Below W.heap.size W wc)
    case first =>
     by_cases hpi : s.par = id
     ·have e3 : (s.par == id) = true := beq_iff_eq.2 hpi
      have HX : Hid ((WB.setCell ⟨pb, 1, none⟩ (.int .i64 0)).heap[pb]? = some (.cells (scs (k, selfR id s)).toArray 67 (0, 0))) := by
       rw [Hid, heap_setCell_same WB pb 1 _ _ _ HBL0.out, show selfR id s = { s with par := 0 } by unfold selfR; rw [if_pos hpi]]
       rfl
      have HY : Hid (∀ vv, wr.ownsRow W.heap.size 67 33 vv (drpL id (L1.take j)).length (rcs (drpL id (L1.take j))) → (WB.setCell ⟨pb, 1, none⟩ (.int .i64 0)).ownsRow W.heap.size 67 33 vv (drpL id (L1.take j)).length (rcs (drpL id (L1.take j)))) := fun vv h1 => by
       have h2 := ownsRow_below h1 (by rw [← HPB.out]; exact HBW.out)
       refine ownsRow_set h2 ⟨pb, 1, none⟩ (fun e => ?_) _
       have := (h1.lt pb e).2
       rw [HPB.out] at this
       omega
      have HZ2 : Hid (RowKit.Below W.heap.size W (WB.setCell ⟨pb, 1, none⟩ (.int .i64 0))) := (Below.on HB.out (by rw [← HPB.out]; exact HBW.out)).setCell (p := ⟨pb, 1, none⟩) (by rw [HPB.out]; exact hws) _
      clear hpi
      go_wp2_with fail
      go_meet
      exact ⟨HY.out _ HO.out, rfl, HX.out, HZ2.out⟩
     ·have e3 : (s.par == id) = false := beq_false_of_ne hpi
      have HX : Hid (WB.heap[pb]? = some (.cells (scs (k, selfR id s)).toArray 67 (0, 0))) := by
       rw [Hid, HBL0.out, show selfR id s = s by unfold selfR; rw [if_neg hpi]]
      have HZ2 : Hid (RowKit.Below W.heap.size W WB) := Below.on HB.out (by rw [← HPB.out]; exact HBW.out)
      have HY := hid (ownsRow_below HO.out (by rw [← HPB.out]; exact HBW.out))
      clear hpi
      go_wp2_with fail
      go_meet
      exact ⟨HY.out, rfl, HX.out, HZ2.out⟩
    case rest =>
     obtain ⟨ho, rfl, hbl, hb⟩ := hcut
     obtain ⟨s1, hs1⟩ : ∃ s1, s1 = selfR id s := ⟨_, rfl⟩
     rw [← hs1] at hbl HSN
     have HBL := hid hbl
     have HO9 := hid ho
     have HB9 := hid hb
     have hsz9 := hb.size
     clear ho hb hbl hs1 HO HB HBW HBL0 b1 f1
     by_cases hki : k = id
     ·have n0 : wc.cell? ⟨pb, 0, none⟩ = some (.int .i64 k) := by rw [cell_of_row wc pb 0 _ _ _ HBL.out]; rfl
      have e4 : (k != id) = false := by simpa using hki
      rw [if_pos hki, List.append_nil] at HSN
      clear hki
      go_wp2
      go_roundw
      case rel => exact ⟨j + 1, by go_num, by omega, by rw [HSN.out]; exact HO9.out, HB9.out⟩
      case measure => simp [numOf]; omega
     ·have e4 : (k != id) = true := by simpa using hki
      rw [if_neg hki] at HSN
      have n0 : wc.cell? ⟨pb, 0, none⟩ = some (.int .i64 k) := by rw [cell_of_row wc pb 0 _ _ _ HBL.out]; rfl
      have HL12 : Hid ((Instr.loadAt 67 (.pointer (some ⟨pb, 0, none⟩))).run Tryz.prog wc = .ok (.agg #[.int .i64 k, .int .i64 s1.par, .bool s1.syn, .bool s1.pe.at_, .int .i64 s1.pe.buf, .slice s1.pe.dm.a s1.pe.dm.n s1.pe.dm.c, .slice s1.pe.fr.a s1.pe.fr.n s1.pe.fr.c, .bool s1.pe.inp, .bool s1.pe.all, .slice s1.pe.rg.a s1.pe.rg.n s1.pe.rg.c, .bool s1.pe.ord, .slice s1.pe.od.a s1.pe.od.n s1.pe.od.c, .slice s1.pe.pl.a s1.pe.pl.n s1.pe.pl.c, .bool s1.ca.at_, .int .i64 s1.ca.buf, .slice s1.ca.dm.a s1.ca.dm.n s1.ca.dm.c, .slice s1.ca.fr.a s1.ca.fr.n s1.ca.fr.c, .bool s1.ca.inp, .bool s1.ca.all, .slice s1.ca.rg.a s1.ca.rg.n s1.ca.rg.c, .bool s1.ca.ord, .slice s1.ca.od.a s1.ca.od.n s1.ca.od.c, .slice s1.ca.pl.a s1.ca.pl.n s1.ca.pl.c, .bool s1.no.at_, .int .i64 s1.no.buf, .slice s1.no.dm.a s1.no.dm.n s1.no.dm.c, .slice s1.no.fr.a s1.no.fr.n s1.no.fr.c, .bool s1.no.inp, .bool s1.no.all, .slice s1.no.rg.a s1.no.rg.n s1.no.rg.c, .bool s1.no.ord, .slice s1.no.od.a s1.no.od.n s1.no.od.c, .slice s1.no.pl.a s1.no.pl.n s1.no.pl.c]) wc) := by
       rw [Hid]
       simp only [Instr.loadAt, Instr.sureAddr, Sem.run_bind, Sem.run_pure, Result.andThen_ok]
       exact run_loadVar_row (P := Tryz.prog) wc pb 67 67 (scs (k, s1)).toArray _ _ HBL.out Tryz.underlying67 rfl infoS
      have hBN := bel_new wc (.cells (scs (k, s1)).toArray 67)
      have HO2 := hid (ownsRow_below HO9.out hBN)
      have HS2 := hid (srcS wc (k, s1))
      have HB2 := hid (Below.on HB9.out hBN)
      have hsz2 := HB2.out.size
      have HG2 : Hid (∀ vv v' u, (wc.alloc (.cells (scs (k, s1)).toArray 67)).ownsRow W.heap.size 67 33 vv (drpL id (L1.take j)).length (rcs (drpL id (L1.take j))) → u.ownsRow W.heap.size 67 33 v' ((drpL id (L1.take j)).length + 1) (rcs (drpL id (L1.take j)) ++ rcs [(k, s1)]) → (wc.alloc (.cells (scs (k, s1)).toArray 67)).grownBy u vv.ownBlock → u.ownsRow W.heap.size 67 33 v' (drpL id (L1.take (j + 1))).length (rcs (drpL id (L1.take (j + 1)))) ∧ RowKit.Below W.heap.size W u) := fun vv v' u h1 h2 h3 => by
       rw [HSN.out, List.length_append, rcs_append]
       exact ⟨h2, HB2.out.grown h3 HB2.out.size (fun k hk => (h1.lt k hk).1)⟩
      generalize (drpL id (L1.take j)).length = m9 at *
      clear hki hBN HAT HBL
      go_wp2_with (first | (refine wpList_load_run rfl 67 (.tmp 7) rfl _ _ rfl HL12.out ?_) | (at_builtin; refine wpList_append_own_src _ rfl (.tmp 40) (.tmp 42) 26 26 rfl W.heap.size 67 i0 (.agg (scs (0, ⟨0, false, sx0, sx0, sx0⟩)).toArray) 33 480 Tryz.underlying26 hi hz0 hz1 hz2 rfl _ _ _ rfl HO2.out _ _ _ rfl HS2.out (by simp only [maxLen]; omega) (fitsR (by omega)) hsz2 ?_; intro v3 w3 o3 g3; obtain ⟨hR3, hB3⟩ := HG2.out _ _ _ HO2.out o3 g3; have HR3 := hid hR3; have HB3 := hid hB3; clear o3 g3 hR3 hB3))
      go_roundw
      case rel => exact ⟨j + 1, by go_num, by omega, HR3.out, HB3.out⟩
      case measure => simp [numOf]; omega
   ·have e1 : decide ((j : Int) < n) = false := decide_eq_false (by omega)
    obtain rfl : j = n := by omega
    have htk : L1.take j = L1 := List.take_of_length_le (by rw [← HNN.out]; exact Nat.le_refl _)
    rw [htk] at ho
    obtain ⟨a9, c9, rfl⟩ := row_form ho
    have f0 := frozen_of_row wr q 0 _ _ hDr.obj
    have HE := hid (HFIN.out W wr L1 _ HD.out HA.out HK.out ho hb)
    clear ho hb hDr htk
    go_wp2
    go_ret
    exact HE.out
end
end Go.Proofs.YtdgknofpkafppaaGreatDoor
