/- Lemmas that the proof leans on. -/
import Derived.Test.YtkjempffidndeaaGreatDoorB17
namespace Go.Proofs.YtkjempffidndeaaGreatDoor
open Go Go.RowKit
open List renaming getElem_toArray → lqA, getElem_cons_zero → lqB, getElem_cons_succ → lqC, setIfInBounds_toArray → lqD, set_cons_zero → lqE, set_cons_succ → lqF
set_option maxRecDepth 100000
set_option maxHeartbeats 2000000
section
section
variable {H : Type} {P : Program} {ops : Array Oper} {o : Oper} {a : Act} {w : World} {Kc : Act → World → Prop} {Q : Exit → Act → World → Prop} {E : Prop}
theorem step_mapUpdate_own (hg : o.guard = none) (m x v : Operand) (t : TypeId) (hop : o.op = Op.mapUpdate t m x v)
  (k e : TypeId) (K : Maps.Keyed P k) (ht : P.underlying t = some (.map k e)) (R : Value → Option (DataW H × List MemPlace)) (b n : Nat) (D : DataW H)
  (hm : a.eval m = .map (some b)) (hown : w.ownsMap P k R b n D) (hn : n < maxLen) (key val : Value) (kl : Lit) (hx : a.eval x = key) (hv : a.eval v = val) (hkey : keyOf P k key = some kl)
  (d : DataW H) (ps : List MemPlace) (hval : R val = some (d, ps))
  (h : ∀ w', w'.ownsMap P k R b (n + 1) (D.put kl d) → w.mapTurned w' b → Kc (a.put o.dst undef) w') :
  if Region.wanted o (yielded ops a.tmps) = true then Oper.wp P o a w Kc Q else E := by
 have hw : Region.wanted o (yielded ops a.tmps) = true := by simp [Region.wanted, hg]
 rw [if_pos hw]
 obtain ⟨w', hrun, r1, r2⟩ := hown.store K ht hn hkey hval
 unfold Oper.wp
 simp [execOp, hop, hm, hx, hv, hrun, Result.andThen]
 exact h w' r1 r2
end
variable {base : Nat} {w0 w w' : World} {p m : Nat} {L L' : Po} {F : Fo} {id : Int} {es : List Addr} {e : Ps}
theorem fnew_any (w : World) : Calls Tryz.prog 17 #[] w fun e w' => e = .returned (.pointer (some ⟨w.heap.size + 1, 0, none⟩)) ∧ Below w.heap.size w w' ∧ ∀ base, base ≤ w.heap.size → Pf base w' (w.heap.size + 1) w.heap.size [] := by
 have H0 := hid (World.ownsMap_made w Tryz.prog 3 ptR)
 have hmm := @run_makeMap Tryz.prog
 go_enter Tryz.func17, Tryz.ntmps17
 go_wp2
 go_ret
 have hb : Below w.heap.size w (w.alloc (.map #[] 0)) := (Below.refl w.heap.size w).alloc (Nat.le_refl _) _
 refine ⟨by simp, hb.alloc hb.size _, fun base hbase => ⟨by omega, hbase, by omega, ?_, ⟨_, H0.out.alloc _, rp_empty _ _⟩, List.nodup_nil, ?_, ?_, ?_, ?_, ?_⟩⟩
 ·have := heap_alloc_new (w.alloc (.map #[] 0)) (.cells #[.map (some w.heap.size)] 97 (0, 0))
  simpa using this
 ·intro x e h
  cases h
 ·intro x e h
  cases h
 ·intro x e h
  cases h
 ·intro x y e e' h
  cases h
 ·intro x e h
  cases h
theorem keys_app {α : Type} {l : List (Int × α)} {id : Int} (h : (keys l).Nodup) (hn : gt l id = none) (q : α) : (keys (l ++ [(id, q)])).Nodup := by
 have := keys_wr h id q
 rw [wr, hn] at this
 exact this
theorem Pf.add {W : World} (h : Pf base w0 p m L) (hn : gt L id = none) (hb : Below w0.heap.size w0 W) {g : Nat} (hg : w0.heap.size ≤ g) {r : Sx} (hB : Bk W g 113 (pcs ⟨0, false, sx0, sx0, r⟩).toArray) (hr : r.Ok W) (hnew : r.New w0.heap.size) (hrg : ∀ z ∈ [r.dm, r.fr, r.rg, r.od], z.Frb g) (hrp : g ∉ r.pl.bl) (ho : W.ownsRow w0.heap.size 46 3 r.pl.v r.pl.n (mcs r.pl.l)) (hp : r.Plf) (hq : r.q = sqA)
  {D : DataW Unit} (hD : Rp ptd none D (pmp L)) {n : Nat} (hw : w'.ownsMap Tryz.prog 3 ptR m n (D.put (.int .i64 id) (ptd (some g)))) (hDm : Maps.IsMap D) (ht : W.mapTurned w' m) :
  PfR base w0 p m L (pab L ++ [(id, sf0)]) w' (L ++ [(id, ⟨g, ⟨0, false, sx0, sx0, r⟩⟩)]) := by
 have hk := kp_turned ht
 obtain ⟨hlp, hlm⟩ := h.lt
 have hlo := h.lop
 have hgw : g < W.heap.size := hB.lt
 have hW := h.on hb
 have hk0 : Kp [m] w0 w' := (kp_of_below hb [m]).trans hk (fun b hb _ => hb)
 obtain ⟨E, hE⟩ : ∃ E : Ps, E = ⟨g, ⟨0, false, sx0, sx0, r⟩⟩ := ⟨_, rfl⟩
 have hgt : ∀ x e', gt (L ++ [(id, E)]) x = some e' → (x = id ∧ e' = E) ∨ (x ≠ id ∧ gt L x = some e') := fun x e' hx => by
  rw [gt_app] at hx
  by_cases hxi : x = id
  ·subst hxi
   rw [hn] at hx
   simp only [Option.isSome_none, Bool.false_eq_true, if_false, if_true, Option.some.injEq] at hx
   exact .inl ⟨rfl, hx.symm⟩
  ·refine .inr ⟨hxi, ?_⟩
   split at hx
   ·exact hx
   ·rw [if_neg (fun e => hxi e.symm)] at hx
    cases hx
 have hwb : ∀ b ∈ wb E, w0.heap.size ≤ b ∧ b < W.heap.size := fun b hb' => by
  subst hE
  rcases mem_wb.1 hb' with rfl | ⟨x, hx, hbx⟩
  ·exact ⟨hg, hgw⟩
  ·simp only [wos, List.mem_cons, List.not_mem_nil, or_false] at hx
   rcases hx with rfl | rfl | rfl | rfl | rfl
   ·simp [sx0, sl0, Sl.bl, Sl.v, Value.ownBlock] at hbx
   ·simp [sx0, sl0, Sl.bl, Sl.v, Value.ownBlock] at hbx
   ·simp [sx0, sl0, Sl.bl, Sl.v, Value.ownBlock] at hbx
   ·simp [sx0, sl0, Sl.bl, Sl.v, Value.ownBlock] at hbx
   ·exact own_blk ho hbx
 have hros : ∀ z ∈ ros E.s, (z.a = none) ∨ z ∈ [r.dm, r.fr, r.rg, r.od] := fun z hz => by
  subst hE
  simp only [ros, List.mem_cons, List.not_mem_nil, or_false] at hz
  rcases hz with rfl | rfl | rfl | rfl | rfl | rfl | rfl | rfl | rfl | rfl
  ·exact .inl rfl
  ·exact .inl rfl
  ·exact .inl rfl
  ·exact .inl rfl
  ·exact .inl rfl
  ·exact .inl rfl
  ·exact .inr (by simp)
  ·exact .inr (by simp)
  ·exact .inr (by simp)
  ·exact .inr (by simp)
 have hrnew : ∀ z ∈ [r.dm, r.fr, r.rg, r.od], ∀ y, z.a = some y → w0.heap.size ≤ y.block := fun z hz => by
  simp only [List.mem_cons, List.not_mem_nil, or_false] at hz
  rcases hz with rfl | rfl | rfl | rfl
  ·exact hnew.dm
  ·exact hnew.fr
  ·exact hnew.rg
  ·exact hnew.od
 have hfar : ∀ z ∈ ros E.s, ∀ b, b < w0.heap.size → z.Frb b := fun z hz b hb' y hy _ e1 => by
  rcases hros z hz with h1 | h1
  ·rw [h1] at hy
   cases hy
  ·have := hrnew z h1 y hy
   omega
 have hown : E.s.Own base W := by
  subst hE
  exact ⟨⟨sx0_ok W, sx0_ok W, hr⟩, World.ownsRow_nil _ _ _ _, World.ownsRow_nil _ _ _ _, World.ownsRow_nil _ _ _ _, World.ownsRow_nil _ _ _ _, ownsRow_low ho (by omega)⟩
 have hnm : ∀ b ∈ wb E, b ∉ [m] := fun b hb' hm => by
  have := (hwb b hb').1
  simp only [List.mem_cons, List.not_mem_nil, or_false] at hm
  omega
 have hplf : ∀ z ∈ [r.dm, r.fr, r.rg, r.od], ∀ b ∈ r.pl.bl, z.Frb b := fun z hz b hb' y hy hn' e1 => by
  obtain ⟨u, hu, e2⟩ := bl_of.1 hb'
  have := hp u hu y
  simp only [List.mem_cons, List.not_mem_nil, or_false] at hz
  rcases hz with rfl | rfl | rfl | rfl
  ·exact this.1 hy hn' (e1.trans e2.symm)
  ·exact this.2.1 hy hn' (e1.trans e2.symm)
  ·exact this.2.2.1 hy hn' (e1.trans e2.symm)
  ·exact this.2.2.2 hy hn' (e1.trans e2.symm)
 have hself : ∀ b ∈ wb E, ∀ z ∈ ros E.s, z.Frb b := fun b hb' z hz => by
  rcases hros z hz with h1 | h1
  ·intro y hy
   rw [h1] at hy
   cases hy
  ·subst hE
   rcases mem_wb.1 hb' with rfl | ⟨x, hx, hbx⟩
   ·exact hrg z h1
   ·simp only [wos, List.mem_cons, List.not_mem_nil, or_false] at hx
    rcases hx with rfl | rfl | rfl | rfl | rfl
    ·simp [sx0, sl0, Sl.bl, Sl.v, Value.ownBlock] at hbx
    ·simp [sx0, sl0, Sl.bl, Sl.v, Value.ownBlock] at hbx
    ·simp [sx0, sl0, Sl.bl, Sl.v, Value.ownBlock] at hbx
    ·simp [sx0, sl0, Sl.bl, Sl.v, Value.ownBlock] at hbx
    ·exact hplf z h1 b hbx
 have hsep : Sep E := by
  subst hE
  refine ⟨fun x hx hm => ?_, fun i j x y b hx hy hbx hby => ?_⟩
  ·simp only [wos, List.mem_cons, List.not_mem_nil, or_false] at hx
   rcases hx with rfl | rfl | rfl | rfl | rfl
   ·simp [sx0, sl0, Sl.bl, Sl.v, Value.ownBlock] at hm
   ·simp [sx0, sl0, Sl.bl, Sl.v, Value.ownBlock] at hm
   ·simp [sx0, sl0, Sl.bl, Sl.v, Value.ownBlock] at hm
   ·simp [sx0, sl0, Sl.bl, Sl.v, Value.ownBlock] at hm
   ·exact hrp hm
  ·have hone : ∀ (i : Nat) x, (wos (⟨0, false, sx0, sx0, r⟩ : Sr))[i]? = some x → b ∈ x.bl → i = 4 := fun i x hx hbx => by
    match i, hx with
    | 0, hx => cases hx; simp [sx0, sl0, Sl.bl, Sl.v, Value.ownBlock] at hbx
    | 1, hx => cases hx; simp [sx0, sl0, Sl.bl, Sl.v, Value.ownBlock] at hbx
    | 2, hx => cases hx; simp [sx0, sl0, Sl.bl, Sl.v, Value.ownBlock] at hbx
    | 3, hx => cases hx; simp [sx0, sl0, Sl.bl, Sl.v, Value.ownBlock] at hbx
    | 4, hx => rfl
    | i + 5, hx => simp [wos] at hx
   rw [hone i x hx hbx, hone j y hy hby]
 have hpm : pmp (L ++ [(id, E)]) = wr (pmp L) id (some g) := by
  rw [wr, gt_pmp, hn, pmp, List.map_append, hE]
  rfl
 have hRp : Rp ptd none (D.put (.int .i64 id) (ptd (some g))) (pmp (L ++ [(id, E)])) := by
  rw [hpm]
  exact hD.put hDm id (some g)
 have hnd : (keys (L ++ [(id, E)])).Nodup := keys_app h.nd hn E
 rw [← hE]
 refine ⟨⟨h.lop, h.lom, h.ne, hk0.var h.obj (by simpa using h.ne), ⟨_, ?_, hRp⟩, hnd, fun x e' hx => ?_, fun x e' hx => ?_, fun x e' hx => ?_, fun x y e1 e2 h1 h2 hne b hb1 => ?_, fun x e' hx z hz => ?_⟩, ?_, hk0.mono (fun b hb _ => by simp only [List.mem_cons, List.not_mem_nil, or_false] at hb; rw [hb]; exact List.mem_cons_self), fun b hb' => ?_, fun b hb' ho x e1 h1 z hz => ?_⟩
 ·have := ptight hw Tryz.underlying3 hRp (by rw [pmp_keys]; exact hnd)
  rw [pmp_length] at this
  exact this
 ·rcases hgt x e' hx with ⟨_, rfl⟩ | ⟨hne, hx⟩
  ·have : e'.g ∉ [m] := hnm _ (mem_wb.2 (.inl rfl))
   subst hE
   exact hk.var hB.obj this
  ·exact hk0.var (h.srf x e' hx) (by simpa using ((h.sep x e' hx).2 e'.g (mem_wb.2 (.inl rfl))).2.2.1)
 ·rcases hgt x e' hx with ⟨_, rfl⟩ | ⟨hne, hx⟩
  ·exact hown.kp hk hnm (fun z hz b hb' => hfar z hz b (by simp only [List.mem_cons, List.not_mem_nil, or_false] at hb'; omega))
  ·exact (h.rows x e' hx).kp hk0 (fun b hb' hm => ((h.sep x e' hx).2 b hb').2.2.1 (by simpa using hm)) (fun z hz b hb' => by simp only [List.mem_cons, List.not_mem_nil, or_false] at hb'; rw [hb']; exact (h.far x e' hx z hz).2)
 ·rcases hgt x e' hx with ⟨_, rfl⟩ | ⟨hne, hx⟩
  ·refine ⟨hsep, fun b hb' => ?_⟩
   have := hwb b hb'
   exact ⟨by omega, by omega, by omega, hself b hb'⟩
  ·exact h.sep x e' hx
 ·rcases hgt x e1 h1 with ⟨hx1, rfl⟩ | ⟨hne1, g1⟩
  ·rcases hgt y e2 h2 with ⟨hy2, _⟩ | ⟨hne2, g2⟩
   ·exact absurd (hx1.trans hy2.symm) hne
   ·have hl := (hwb b hb1).1
    refine ⟨fun hm => ?_, fun z hz => (h.rows y e2 g2).ros hz hl⟩
    have := (h.wlt g2 hm).2
    omega
  ·rcases hgt y e2 h2 with ⟨_, rfl⟩ | ⟨hne2, g2⟩
   ·have hl := (h.wlt g1 hb1).2
    refine ⟨fun hm => ?_, fun z hz => hfar z hz b hl⟩
    have := (hwb b hm).1
    omega
   ·exact h.sep2 x y e1 e2 g1 g2 hne b hb1
 ·rcases hgt x e' hx with ⟨_, rfl⟩ | ⟨hne, hx⟩
  ·exact ⟨hfar z hz p hlp, hfar z hz m hlm⟩
  ·exact h.far x e' hx z hz
 ·rw [pab, List.map_append, ← pab, hE]
  simp only [List.map_cons, List.map_nil, Sr.f, sx0_q, hq]
  rfl
 ·obtain ⟨x, e1, h1, h2⟩ := (mem_wbs hnd).1 hb'
  rcases hgt x e1 h1 with ⟨_, rfl⟩ | ⟨hne1, g1⟩
  ·exact .inr (hwb b h2).1
  ·exact .inl ((mem_wbs h.nd).2 ⟨x, e1, g1, h2⟩)
 ·rcases hgt x e1 h1 with ⟨_, rfl⟩ | ⟨hne1, g1⟩
  ·exact hfar z hz b hb'
  ·exact ho x e1 g1 z hz
theorem fadd_any (hE : Fe w es) (h : Pf base w p m L) (id : Int) (hi : Bt id) (hl : L.length ≤ 40) :
  Calls Tryz.prog 19 #[.pointer (some ⟨p, 0, none⟩), .int .i64 id] w fun e w' => e = .returned (erv es (addE (pab L) id)) ∧ ∃ L', PfR base w p m L (addF (pab L) id) w' L' := by
 have HNO : Hid (∀ k, addE (pab L) id = k → k ≠ 0 → PfR base w p m L (addF (pab L) id) w L) := fun k hk h0 => (PfR.refl h (Below.refl _ _)).as (by rw [addF, if_neg (by rw [hk]; exact h0)])
 cases h1 : decide (id < 1)
 ·have h1' : ¬ id < 1 := by simpa using h1
  have HH := hid (fhas_any h id hi)
  cases h2 : (gt L id).isSome
  ·rw [h2] at HH
   have hgn : gt L id = none := by simpa using h2
   have hgp : (gt (pab L) id).isSome = false := by rw [gt_pab, hgn]; rfl
   obtain ⟨D, ho, hD⟩ := h.own
   have hsz := psize ho Tryz.underlying3 hD (by rw [pmp_keys]; exact h.nd)
   rw [pmp_length] at hsz
   have HLEN : Hid (∀ ty, (Builtin.len_ #[95] ty #[.map (some m)]).run Tryz.prog w = .ok (.int .i64 (L.length : Nat)) w) := fun ty => by
    rw [← hsz]
    exact ho.len Tryz.underlying95 ty
   have c0 := h.c0
   have l0 := h.lt.1
   cases h3 : decide ((40 : Int) ≤ (L.length : Nat))
   ·have h3' : ¬ 40 ≤ L.length := fun h' => by
     have := of_decide_eq_false h3
     omega
    have HV : Hid (addE (pab L) id = 0) := by rw [Hid, addE, if_neg h1', hgp, pab_length, if_neg h3']; rfl
    have HVF : Hid (addF (pab L) id = pab L ++ [(id, sf0)]) := by rw [Hid, addF, if_pos HV.out]
    have HOM : Hid (∀ W : World, Below w.heap.size w W → W.ownsMap Tryz.prog 3 ptR m L.length D ∧ W.cell? ⟨p, 0, none⟩ = some (.map (some m)) ∧ p < W.heap.size) := fun W hW => ⟨pown_kp ho (kp_of_below hW []) (by simp), (h.on hW).c0, (h.on hW).lt.1⟩
    have HK := hid (kBt id hi)
    have HFIN : Hid (∀ (W W' : World) (g : Nat) (r : Sx), Below w.heap.size w W → w.heap.size ≤ g → Bk W g 113 (pcs ⟨0, false, sx0, sx0, r⟩).toArray → r.Ok W → r.New w.heap.size → (∀ z ∈ [r.dm, r.fr, r.rg, r.od], z.Frb g) → g ∉ r.pl.bl → W.ownsRow w.heap.size 46 3 (.slice r.pl.a r.pl.n r.pl.c) r.pl.n (mcs r.pl.l) → r.Plf → r.q = sqA → W'.ownsMap Tryz.prog 3 ptR m (L.length + 1) (D.put (.int .i64 id) (ptd (some g))) → W.mapTurned W' m → ∃ L', PfR base w p m L (addF (pab L) id) W' L') :=
     fun W W' g r hb hg hB hr hn' hrg hrp hor hpf hrq hom hmt => ⟨_, (h.add hgn hb hg hB hr hn' hrg hrp hor hpf hrq hD hom ho.isMap hmt).as HVF.out.symm⟩
    rw [HV.out]
    clear hE h HNO HV HVF ho hD h1' hgn hgp hsz h3' h2
    go_enter Tryz.func19, Tryz.ntmps19
    go_wp2_with fail
    refine HH.out.mono ?_
    rintro e' w1 ⟨rfl, hw1⟩
    obtain rfl : w = w1 := hw1.symm
    clear hw1 HH
    have HL1 := HLEN.out
    go_upto_region 7 with fail
    clear HL1 HLEN c0
    refine wp_region_gate_drew (g := 8) (S := RowKit.Below w.heap.size w) (by kernel_rfl) ?hh (fun hHeld => ?_)
    case hh => exact ((Below.refl _ _).drew)
    generalize w.drew = W0 at hHeld ⊢
    try dsimp only at hHeld
    refine wpAnyG_take (i := 0) (v := ?_) rfl (by kernel_rfl) (by kernel_rfl) (by kernel_rfl) (by kernel_rfl) (fun _ _ _ h => h) (Or.inl ⟨by kernel_rfl, ?hy0⟩) (by assumption) ?_
    case hy0 => (intro wI hSw; (try dsimp only at hSw); obtain ⟨_, t1, t2⟩ := HOM.out _ hSw; go_simp; try with_reducible rfl)
    try simp only [Act.put, lqA, lqB, lqD, lqE, lqF]
    refine wpAnyG_take (i := 1) (v := ?_) rfl (by kernel_rfl) (by kernel_rfl) (by kernel_rfl) (by kernel_rfl) (fun _ _ _ h => h) (Or.inl ⟨by kernel_rfl, ?hy1⟩) (by assumption) ?_
    case hy1 => (intro wI hSw; (try dsimp only at hSw); obtain ⟨_, t1, t2⟩ := HOM.out _ hSw; go_simp; try with_reducible rfl)
    try simp only [Act.put, lqA, lqB, lqC, lqD, lqE, lqF]
    refine wpAnyG_take (i := 2) (v := ?_) rfl (by kernel_rfl) (by kernel_rfl) (by kernel_rfl) (by kernel_rfl) (fun _ _ _ h => h) (Or.inl ⟨by kernel_rfl, ?hy2⟩) (by assumption) ?_
    case hy2 => (intro wI hSw; (try dsimp only at hSw); obtain ⟨_, t1, t2⟩ := HOM.out _ hSw; go_simp; try with_reducible rfl)
    try simp only [Act.put, lqA, lqB, lqC, lqD, lqE, lqF]
    refine wpAnyG_take (i := 3) (v := ?_) rfl (by kernel_rfl) (by kernel_rfl) (by kernel_rfl) (by kernel_rfl) (fun _ _ _ h => h) (Or.inl ⟨by kernel_rfl, ?hy3⟩) (by assumption) ?_
    case hy3 => (intro wI hSw; (try dsimp only at hSw); obtain ⟨_, t1, t2⟩ := HOM.out _ hSw; go_simp; try with_reducible rfl)
    try simp only [Act.put, lqA, lqB, lqC, lqD, lqE, lqF]
    refine wpAnyG_take (i := 4) (v := ?_) rfl (by kernel_rfl) (by kernel_rfl) (by kernel_rfl) (by kernel_rfl) (fun _ _ _ h => h) (Or.inl ⟨by kernel_rfl, ?hy4⟩) (by assumption) ?_
    case hy4 => (intro wI hSw; (try dsimp only at hSw); obtain ⟨_, t1, t2⟩ := HOM.out _ hSw; go_simp; try with_reducible rfl)
    try simp only [Act.put, lqA, lqB, lqC, lqD, lqE, lqF]
    refine wpAnyG_ready (rs := [5]) (by kernel_rfl) (by simp) ?_
    refine AllReadyG.cons rfl (fun K hK => ?_) AllReadyG.nil
    go_simp
    go_wp2_with fail
    refine (firsto_any _).mono ?_
    rintro e' W5 ⟨r, rfl, okr, nwr, hqr, hbr, owr, plr⟩
    have hH2 := Below.on hHeld hbr
    have HR := hid (show r.Ok W5 ∧ r.New w.heap.size ∧ r.q = sqF ∧ W5.ownsRow w.heap.size 46 3 (.slice r.pl.a r.pl.n r.pl.c) r.pl.n (mcs r.pl.l) ∧ r.Plf from ⟨okr, nwr.low hHeld.size, hqr, ownsRow_low owr hHeld.size, plr⟩)
    refine hK.out _ _ hH2 (fun _ => ?_)
    clear hK K hHeld okr nwr hqr hbr owr plr
    have hHeld := hH2
    clear hH2
    try simp only [Act.put, lqA, lqB, lqC, lqD, lqE, lqF]
    refine wpAnyG_take (i := 6) (v := ?_) rfl (by kernel_rfl) (by kernel_rfl) (by kernel_rfl) (by kernel_rfl) (fun _ _ _ h => h) (Or.inl ⟨by kernel_rfl, ?hy6⟩) (by assumption) ?_
    case hy6 => (intro wI hSw; (try dsimp only at hSw); obtain ⟨_, t1, t2⟩ := HOM.out _ hSw; go_simp; try with_reducible rfl)
    try simp only [Act.put, lqA, lqB, lqC, lqD, lqE, lqF]
    refine wpAnyG_ready (rs := [7]) (by kernel_rfl) (by simp) ?_
    refine AllReadyG.cons rfl (fun K hK => ?_) AllReadyG.nil
    have hb7 := bel_new W5 (.cells #[.bool false, .int .i64 0, .slice none 0 0, .slice none 0 0, .bool false, .bool false, .slice none 0 0, .bool false, .slice none 0 0, .slice none 0 0, .bool false, .int .i64 0, .slice none 0 0, .slice none 0 0, .bool false, .bool false, .slice none 0 0, .bool false, .slice none 0 0, .slice none 0 0, .bool r.at_, .int .i64 r.buf, .slice r.dm.a r.dm.n r.dm.c, .slice r.fr.a r.fr.n r.fr.c, .bool r.inp, .bool r.all, .slice r.rg.a r.rg.n r.rg.c, .bool r.ord, .slice r.od.a r.od.n r.od.c, .slice r.pl.a r.pl.n r.pl.c, .int .i64 0, .bool false] 113)
    have hH2 := Below.on hHeld hb7
    have hg7 : w.heap.size ≤ W5.heap.size := hHeld.size
    have HB7 := hid (bk_new W5 #[.bool false, .int .i64 0, .slice none 0 0, .slice none 0 0, .bool false, .bool false, .slice none 0 0, .bool false, .slice none 0 0, .slice none 0 0, .bool false, .int .i64 0, .slice none 0 0, .slice none 0 0, .bool false, .bool false, .slice none 0 0, .bool false, .slice none 0 0, .slice none 0 0, .bool r.at_, .int .i64 r.buf, .slice r.dm.a r.dm.n r.dm.c, .slice r.fr.a r.fr.n r.fr.c, .bool r.inp, .bool r.all, .slice r.rg.a r.rg.n r.rg.c, .bool r.ord, .slice r.od.a r.od.n r.od.c, .slice r.pl.a r.pl.n r.pl.c, .int .i64 0, .bool false] 113)
    have HR7 := hid (show r.Ok (W5.alloc (.cells #[.bool false, .int .i64 0, .slice none 0 0, .slice none 0 0, .bool false, .bool false, .slice none 0 0, .bool false, .slice none 0 0, .slice none 0 0, .bool false, .int .i64 0, .slice none 0 0, .slice none 0 0, .bool false, .bool false, .slice none 0 0, .bool false, .slice none 0 0, .slice none 0 0, .bool r.at_, .int .i64 r.buf, .slice r.dm.a r.dm.n r.dm.c, .slice r.fr.a r.fr.n r.fr.c, .bool r.inp, .bool r.all, .slice r.rg.a r.rg.n r.rg.c, .bool r.ord, .slice r.od.a r.od.n r.od.c, .slice r.pl.a r.pl.n r.pl.c, .int .i64 0, .bool false] 113)) ∧ r.New w.heap.size ∧ r.q = sqF ∧ (W5.alloc (.cells #[.bool false, .int .i64 0, .slice none 0 0, .slice none 0 0, .bool false, .bool false, .slice none 0 0, .bool false, .slice none 0 0, .slice none 0 0, .bool false, .int .i64 0, .slice none 0 0, .slice none 0 0, .bool false, .bool false, .slice none 0 0, .bool false, .slice none 0 0, .slice none 0 0, .bool r.at_, .int .i64 r.buf, .slice r.dm.a r.dm.n r.dm.c, .slice r.fr.a r.fr.n r.fr.c, .bool r.inp, .bool r.all, .slice r.rg.a r.rg.n r.rg.c, .bool r.ord, .slice r.od.a r.od.n r.od.c, .slice r.pl.a r.pl.n r.pl.c, .int .i64 0, .bool false] 113)).ownsRow w.heap.size 46 3 (.slice r.pl.a r.pl.n r.pl.c) r.pl.n (mcs r.pl.l) ∧ r.Plf from ⟨HR.out.1.on hb7, HR.out.2.1, HR.out.2.2.1, ownsRow_below HR.out.2.2.2.1 hb7, HR.out.2.2.2.2⟩)
    have HG7 := hid (show (∀ z ∈ [r.dm, r.fr, r.rg, r.od], z.Frb W5.heap.size) ∧ W5.heap.size ∉ r.pl.bl from ⟨fun z hz => by simp only [List.mem_cons, List.not_mem_nil, or_false] at hz; (rcases hz with rfl | rfl | rfl | rfl); exact far_old HR.out.1.dm (Nat.le_refl _); exact far_old HR.out.1.fr (Nat.le_refl _); exact far_old HR.out.1.rg (Nat.le_refl _); exact far_old HR.out.1.od (Nat.le_refl _), fun hm => by have := (own_blk (x := r.pl) HR.out.2.2.2.1 hm).2; omega⟩)
    go_simp
    refine hK.out _ _ hH2 (fun _ => ?_)
    clear hK K hHeld hb7 HR
    generalize W5.alloc (.cells #[.bool false, .int .i64 0, .slice none 0 0, .slice none 0 0, .bool false, .bool false, .slice none 0 0, .bool false, .slice none 0 0, .slice none 0 0, .bool false, .int .i64 0, .slice none 0 0, .slice none 0 0, .bool false, .bool false, .slice none 0 0, .bool false, .slice none 0 0, .slice none 0 0, .bool r.at_, .int .i64 r.buf, .slice r.dm.a r.dm.n r.dm.c, .slice r.fr.a r.fr.n r.fr.c, .bool r.inp, .bool r.all, .slice r.rg.a r.rg.n r.rg.c, .bool r.ord, .slice r.od.a r.od.n r.od.c, .slice r.pl.a r.pl.n r.pl.c, .int .i64 0, .bool false] 113) = W7 at *
    have hHeld := hH2
    clear hH2
    try simp only [Act.put, lqA, lqB, lqC, lqD, lqE, lqF]
    have hG := hHeld
    clear hHeld
    have hHeld : True := trivial
    refine wpAnyG_gateOp rfl (by kernel_rfl) (fun K hK => ?_)
    refine step_mapUpdate_own rfl (.tmp 22) (.tmp 23) (.tmp 26) 95 rfl 3 110 (Maps.int_keyed Tryz.underlying3) Tryz.underlying95 ptR m _ D (by simp [Act.eval]) (HOM.out _ hG).1 (by simp only [maxLen]; omega) _ _ _ rfl rfl HK.out _ _ (ptR_mk (some _)) ?_
    intro W8 o8 t8
    have HX := hid (HFIN.out _ _ _ r hG hg7 HB7.out HR7.out.1 HR7.out.2.1 HG7.out.1 HG7.out.2 HR7.out.2.2.2.1 HR7.out.2.2.2.2 HR7.out.2.2.1 o8 t8)
    clear o8 t8
    refine hK.out _ _ trivial (fun _ => ?_)
    clear hK K
    try simp only [Act.put, lqA, lqB, lqC]
    refine wpAnyH_done (by kernel_rfl) ?_ _
    go_wp2_with fail
    go_ret
    exact ⟨rfl, HX.out⟩
   ·have h3' : 40 ≤ L.length := by
     have := of_decide_eq_true h3
     omega
    have HV : Hid (addE (pab L) id = 4) := by rw [Hid, addE, if_neg h1', hgp, pab_length, if_pos h3']; rfl
    have HX := hid (HNO.out 4 HV.out (by decide))
    have c1 := hE.big
    have l1 := World.block_lt_of_cell? _ _ c1
    rw [HV.out]
    clear hE h HNO HV ho hD h1' hgn hgp hsz h3' h2
    go_enter Tryz.func19, Tryz.ntmps19
    go_wp2_with fail
    refine HH.out.mono ?_
    rintro e' w1 ⟨rfl, hw1⟩
    obtain rfl : w = w1 := hw1.symm
    clear hw1 HH
    have HL1 := HLEN.out
    go_wp2
    go_ret
    exact ⟨rfl, _, HX.out⟩
  ·have HV : Hid (addE (pab L) id = 5) := by
    rw [Hid, addE, if_neg h1', gt_pab]
    obtain ⟨e, he⟩ := Option.isSome_iff_exists.1 h2
    rw [he]
    rfl
   rw [h2] at HH
   have HX := hid (HNO.out 5 HV.out (by decide))
   have c1 := hE.obj
   have l1 := World.block_lt_of_cell? _ _ c1
   rw [HV.out]
   clear hE h HNO HV h2 h1'
   go_enter Tryz.func19, Tryz.ntmps19
   go_wp2_with fail
   refine HH.out.mono ?_
   rintro e' w1 ⟨rfl, hw1⟩
   obtain rfl : w = w1 := hw1.symm
   clear hw1 HH
   go_wp2
   go_ret
   exact ⟨rfl, _, HX.out⟩
 ·have HV : Hid (addE (pab L) id = 1) := by rw [Hid, addE, if_pos (by simpa using h1)]
  have HX := hid (HNO.out 1 HV.out (by decide))
  have c1 := hE.arg
  have l1 := World.block_lt_of_cell? _ _ c1
  rw [HV.out]
  clear hE h HNO HV
  go_enter Tryz.func19, Tryz.ntmps19
  go_wp2
  go_ret
  exact ⟨rfl, _, HX.out⟩
end
section
variable {base : Nat} {w0 w w' : World} {p m : Nat} {L L' : Po} {F : Fo} {id : Int} {es : List Addr} {e : Ps}
theorem upd_upd (F : Fo) (x : Int) (f g : Sf → Sf) : upd (upd F x f) x g = upd F x (fun s => g (f s)) := by
 cases h : gt F x with
 | none => rw [upd, upd, upd, h]; simp [h]
 | some s =>
  rw [upd, gt_upd, if_pos rfl, h]
  simp only [Option.map_some]
  rw [upd, h, upd, h]
  simp only [st, List.map_map]
  refine List.map_congr_left fun e _ => ?_
  simp only [Function.comp]
  split
  ·simp
  ·rfl
theorem upd_at {F : Fo} {x : Int} {s : Sf} (h : gt F x = some s) {f g : Sf → Sf} (hf : f s = g s) : upd F x f = upd F x g := by rw [upd, upd, h]; simp only [hf]
theorem Pf.subbed (h : Pf base w p m L) {y : Int} {e ep : Ps} (he : gt L id = some e) (hep : gt L y = some ep) (hne : y ≠ id) (h0 : subE (pab L) id y = 0) {w1 : World} (hb : Below w.heap.size w w1) :
  ∃ W1 L1, W1 = (w1.setCell ⟨e.g, 30, none⟩ (.int .i64 y)).setCell ⟨e.g, 31, none⟩ (.bool true) ∧ Pf base W1 p m L1 ∧ gt L1 y = some ep ∧ Below base w W1 ∧
   ∀ (W2 : World) (l : Sl), l.l = sg (dr id (un1 (lat ep.s.f)) ++ [id]) → ∀ L2, PfR base W1 p m L1 (upd (pab L1) y (ordS l.l)) W2 L2 → L2 = st L1 y ⟨ep.g, { ep.s with pe := { ep.s.pe with ord := true, od := l } }⟩ →
    ∀ (W3 : World) (v : Value), OwM 3 46 W2 W3 v (put1 ep.s.pe.pl.l [id, 0, 0]) → ∃ k : Sl, v = .slice k.a k.n k.c ∧ W3.cell? ⟨ep.g, 9, none⟩ = some (.slice ep.s.pe.pl.a ep.s.pe.pl.n ep.s.pe.pl.c) ∧ (∀ j, W3.frozen? ⟨ep.g, j, none⟩ = false) ∧ ep.g < W3.heap.size ∧ ∃ L', PfR base w p m L (subF (pab L) id y) (W3.setCell ⟨ep.g, 9, none⟩ (.slice k.a k.n k.c)) L' := by
 have hr1 := h.putPS he hb y true
 have hep1 : gt (st L id ⟨e.g, { e.s with par := y, syn := true }⟩) y = some ep := by rw [gt_st, if_neg hne]; exact hep
 refine ⟨_, _, rfl, hr1.pf, hep1, hr1.bel h, fun W2 l hl L2 hr2 hL2 W3 v ho => ?_⟩
 obtain ⟨k, rfl, hn, hk, hrd, hown⟩ := own_sl ho.own rfl ho.size
 have hep2 : gt L2 y = some ⟨ep.g, { ep.s with pe := { ep.s.pe with ord := true, od := l } }⟩ := by
  rw [hL2, gt_st, if_pos rfl, hep1]
  rfl
 have h2 := hr2.pf
 have h3 := h2.on ho.bel
 have hfz := h3.fz hep2
 have hwl := (h3.wlt hep2 (mem_wb.2 (.inl rfl))).2
 refine ⟨k, rfl, h3.cell hep2, hfz, hwl, _, ((hr1.trans hr2).trans (h2.putPl hep2 ho.bel k hrd hown (plcS [id, 0, 0]) ?_)).as ?_⟩
 ·simp only [Sr.f, Sx.q, plcS, hk]
 ·rw [hr2.ab, hr1.ab, upd_upd, subF, if_pos h0]
  refine upd_at (s := ep.s.f) (by rw [← hr1.ab, gt_pab, hep1]; rfl) ?_
  rw [hl]
theorem fsub_any (hE : Fe w es) (hB : 16 ≤ base) (h : Pf base w p m L) (hN : Nok L) (hL : Few L) (id y : Int) (hi : Bt id) (hj : Bt y) :
  Calls Tryz.prog 38 #[.pointer (some ⟨p, 0, none⟩), .int .i64 id, .int .i64 y] w fun e w' => e = .returned (erv es (subE (pab L) id y)) ∧ ∃ L', PfR base w p m L (subF (pab L) id y) w' L' := by
 have HF := hid (ffind_any hE h id hi)
 have HNO : Hid (∀ k, subE (pab L) id y = k → k ≠ 0 → ∀ q, PfR base w p m L (subF (pab L) id y) (w.drewN q) L) := fun k hk h0 q => (PfR.refl h (below_drewN (Below.refl _ _) q)).as (by rw [subF, if_neg (by rw [hk]; exact h0)])
 have HF2 : Hid (∀ q, Calls Tryz.prog 60 #[.pointer (some ⟨p, 0, none⟩), .int .i64 y] (w.drewN q) fun e w' => e = .returned (.tuple #[ptv (pto L y), erv es (hasE (pab L) y)]) ∧ ∃ q, w' = w.drewN q) := fun q => (ffind_any (hE.drewN q) (h.drewN q) y hj).mono fun e w' ⟨h1, q1, h2⟩ => ⟨h1, q + q1, by rw [h2]; simp⟩
 cases hq : gt L id with
 | none =>
  have HS : Hid (pto L id = none ∧ hasE (pab L) id = 5) := ⟨by rw [pto, hq]; rfl, by rw [hasE, gt_pab, hq]; rfl⟩
  have HV : Hid (subE (pab L) id y = 5) := by rw [Hid, subE, gt_pab, hq]; rfl
  have HX := hid (HNO.out 5 HV.out (by decide))
  rw [HS.out.1, HS.out.2] at HF
  rw [HV.out]
  clear hq h hE HS HNO HV hN hL HF2
  go_enter Tryz.func38, Tryz.ntmps38
  go_wp2_with fail
  refine HF.out.mono ?_
  rintro e w1 ⟨rfl, q1, rfl⟩
  rw [ptv_none, erv_succ]
  go_wp2
  go_ret
  exact ⟨rfl, _, HX.out q1⟩
 | some e =>
  have HS : Hid (pto L id = some e.g ∧ hasE (pab L) id = 0) := ⟨by rw [pto, hq]; rfl, by rw [hasE, gt_pab, hq]; rfl⟩
  rw [HS.out.1, HS.out.2] at HF
  clear HS
  cases hp : gt L y with
  | none =>
   have HS : Hid (pto L y = none ∧ hasE (pab L) y = 5) := ⟨by rw [pto, hp]; rfl, by rw [hasE, gt_pab, hp]; rfl⟩
   have HV : Hid (subE (pab L) id y = 5) := by rw [Hid, subE, gt_pab, gt_pab, hq, hp]; rfl
   have HX := hid (HNO.out 5 HV.out (by decide))
   rw [HS.out.1, HS.out.2] at HF2
   rw [HV.out]
   clear hq h hE HS HNO HV hN hL hp
   go_enter Tryz.func38, Tryz.ntmps38
   go_wp2_with fail
   refine HF.out.mono ?_
   rintro e w1 ⟨rfl, q1, rfl⟩
   rw [ptv_some, erv0]
   go_wp2_with fail
   refine (HF2.out q1).mono ?_
   rintro e w1 ⟨rfl, q2, rfl⟩
   rw [ptv_none, erv_succ]
   go_wp2
   go_ret
   exact ⟨rfl, _, HX.out q2⟩
  | some ep =>
   have HS : Hid (pto L y = some ep.g ∧ hasE (pab L) y = 0) := ⟨by rw [pto, hp]; rfl, by rw [hasE, gt_pab, hp]; rfl⟩
   rw [HS.out.1, HS.out.2] at HF2
   have hV : subE (pab L) id y = if e.s.par ≠ 0 then 10 else if anc (pab L) y id then 11 else 0 := by rw [subE, gt_pab, gt_pab, hq, hp]; rfl
   have c1 : w.cell? ⟨e.g, 30, none⟩ = some (.int .i64 e.s.par) := h.cell hq
   have c2 : w.cell? ⟨e.g, 31, none⟩ = some (.bool e.s.syn) := h.cell hq
   have f1 := h.fz hq
   have hlt := (h.wlt hq (mem_wb.2 (.inl rfl))).2
   cases h0 : (e.s.par != 0)
   ·have h0' : e.s.par = 0 := by simpa using h0
    have HW : Hid (∀ q, Calls Tryz.prog 78 #[.pointer (some ⟨p, 0, none⟩), .int .i64 y, .int .i64 id] (w.drewN q) fun e w' => e = .returned (.bool (anc (pab L) y id)) ∧ ∃ q, w' = w.drewN q) := fun q => (fwithin_any (hE.drewN q) (h.drewN q) hN y id (by rw [hp]; rfl)).mono fun e w' ⟨h1, q1, h2⟩ => ⟨h1, q + q1, by rw [h2]; simp⟩
    rw [if_neg (by simpa using h0')] at hV
    cases ha : anc (pab L) y id
    ·rw [ha] at hV HW
     have hne : y ≠ id := fun e1 => by
      rw [anc_some (s := ep.s.f) (by rw [gt_pab, hp]; rfl), e1] at ha
      simp at ha
     have HS2 := hid (fun q => h.subbed hq hp hne hV (w1 := w.drewN q) (below_drewN (Below.refl _ _) q))
     have HV : Hid (subE (pab L) id y = 0) := hV
     have HE := hid hE
     have hln := hL.lat hp
     have hpn : ep.s.pe.pl.n ≤ 900000 := (hL _ _ hp).1.2.2.2.2
     rw [HV.out]
     clear hq h hE HS HNO hN hL hp h0' ha HV hV hne
     go_enter Tryz.func38, Tryz.ntmps38
     go_wp2_with fail
     refine HF.out.mono ?_
     rintro e' w1 ⟨rfl, q1, rfl⟩
     rw [ptv_some, erv0]
     go_wp2_with fail
     refine (HF2.out q1).mono ?_
     rintro e' w1 ⟨rfl, q2, rfl⟩
     rw [ptv_some, erv0]
     go_wp2_with fail
     refine (HW.out q2).mono ?_
     rintro e' w1 ⟨rfl, q3, rfl⟩
     obtain ⟨W1, L1, hW1, hP1, hg1, hbl1, hfin⟩ := HS2.out q3
     have HW1 := hid hW1
     have HP1 := hid hP1
     have HG1 := hid hg1
     have HFIN := hid hfin
     have HE1 := hid (HE.out.kb hbl1 hB)
     clear hW1 hP1 hg1 hbl1 hfin HS2 HF HF2 HW
     go_upto_region 12 with fail
     rw [← HW1.out]
     clear c1 c2 f1 HW1 hlt
     go_wp2_with fail
     refine (flatest_any HP1.out HG1.out).mono ?_
     rintro e' w2 ⟨rfl, rfl⟩
     rw [Sl.v]
     have hrz := rz_of_rdm (latS_ok (HP1.out.rows _ _ HG1.out).ok)
     rw [un1_lat] at hrz
     have HT := hid (otop_any _ _ _ _ id w2 _ HE1.out.pl hrz (by omega))
     clear hrz
     go_wp2_with fail
     refine HT.out.mono ?_
     rintro e' w3 ⟨v3, rfl, ho3⟩
     obtain ⟨l3, rfl, hl1, hl2, hl3⟩ := sl_of_owz ho3
     have HR := hid (freorder_any HP1.out HG1.out ho3.bel l3 hl2 (fun y hy _ => hl3 y hy))
     have HL3 := hid hl1
     clear ho3 hl1 hl2 hl3 HT
     go_wp2_with fail
     refine HR.out.mono ?_
     rintro e' w4 ⟨rfl, hr4⟩
     have hg4 : gt (st L1 y ⟨ep.g, { ep.s with pe := { ep.s.pe with ord := true, od := l3 } }⟩) y = some ⟨ep.g, { ep.s with pe := { ep.s.pe with ord := true, od := l3 } }⟩ := by
      rw [gt_st, if_pos rfl, HG1.out]
      rfl
     have d1 : w4.cell? ⟨ep.g, 9, none⟩ = some (.slice ep.s.pe.pl.a ep.s.pe.pl.n ep.s.pe.pl.c) := hr4.pf.cell hg4
     have hl4 := (hr4.pf.wlt hg4 (mem_wb.2 (.inl rfl))).2
     have HPT := hid (sput_any _ _ _ _ id 0 0 w4 (hr4.pf.rows _ _ hg4).ok.pe.pl hpn)
     have HF4 := hid (HFIN.out w4 l3 HL3.out _ hr4 rfl)
     clear hr4 hg4 HFIN HR HL3
     go_wp2_with fail
     refine HPT.out.mono ?_
     rintro e' w5 ⟨v5, rfl, ho5⟩
     obtain ⟨k5, rfl, d2, d3, d4, d5⟩ := HF4.out w5 v5 ho5
     have HX := hid d5
     clear d5 ho5 HPT HF4 d1
     go_wp2
     go_ret
     exact ⟨rfl, HX.out⟩
    ·rw [ha] at hV HW
     have HV : Hid (subE (pab L) id y = 11) := hV
     have HX := hid (HNO.out 11 HV.out (by decide))
     have c5 := hE.plc
     have l5 := World.block_lt_of_cell? _ _ c5
     rw [HV.out]
     clear hq h hE HS HNO hN hL hp h0' ha HV hV
     go_enter Tryz.func38, Tryz.ntmps38
     go_wp2_with fail
     refine HF.out.mono ?_
     rintro e' w1 ⟨rfl, q1, rfl⟩
     rw [ptv_some, erv0]
     go_wp2_with fail
     refine (HF2.out q1).mono ?_
     rintro e' w1 ⟨rfl, q2, rfl⟩
     rw [ptv_some, erv0]
     go_wp2_with fail
     refine (HW.out q2).mono ?_
     rintro e' w1 ⟨rfl, q3, rfl⟩
     go_wp2
     go_ret
     exact ⟨rfl, _, HX.out q3⟩
   ·have h0' : e.s.par ≠ 0 := by simpa using h0
    have HV : Hid (subE (pab L) id y = 10) := by rw [Hid, hV, if_pos h0']
    have HX := hid (HNO.out 10 HV.out (by decide))
    have c5 := hE.rol
    have l5 := World.block_lt_of_cell? _ _ c5
    rw [HV.out]
    clear hq h hE HS HNO hN hL hp h0' HV hV
    go_enter Tryz.func38, Tryz.ntmps38
    go_wp2_with fail
    refine HF.out.mono ?_
    rintro e' w1 ⟨rfl, q1, rfl⟩
    rw [ptv_some, erv0]
    go_wp2_with fail
    refine (HF2.out q1).mono ?_
    rintro e' w1 ⟨rfl, q2, rfl⟩
    rw [ptv_some, erv0]
    go_wp2
    go_ret
    exact ⟨rfl, _, HX.out q2⟩
end
end Go.Proofs.YtkjempffidndeaaGreatDoor
