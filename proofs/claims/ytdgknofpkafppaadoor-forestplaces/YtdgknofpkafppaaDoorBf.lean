/- The program's forest: New, Add, Sub. Written by forest/mk_pfi.py. -/
import Derived.Test.YtdgknofpkafppaaDoorBe
import Derived.Laws.CopyOwn
import Derived.Maps.RangeWalk
namespace Go.Proofs.YtdgknofpkafppaaDoor
open Go Go.RowKit

section
variable {H : Type} {P : Program} {ops : Array Oper} {o : Oper} {a : Act} {w : World} {Kc : Act → World → Prop} {Q : Exit → Act → World → Prop} {E : Prop}
/-- A map's entry written, inside a region that draws. -/
theorem step_mapUpdate_own (hg : o.guard = none) (m x v : Operand) (t : TypeId) (hop : o.op = Op.mapUpdate t m x v)
    (k e : TypeId) (K : Maps.Keyed P k) (ht : P.underlying t = some (.map k e)) (R : Value → Option (DataW H × List MemPlace)) (b n : Nat) (D : DataW H)
    (hm : a.eval m = .map (some b)) (hown : w.ownsMap P k R b n D) (hn : n < maxLen) (key val : Value) (kl : Lit) (hx : a.eval x = key) (hv : a.eval v = val) (hkey : keyOf P k key = some kl)
    (d : DataW H) (ps : List MemPlace) (hval : R val = some (d, ps))
    (h : ∀ w', w'.ownsMap P k R b (n + 1) (D.put kl d) → w.mapTurned w' b → Kc (a.put o.dst undef) w') :
    if Region.wanted o (yielded ops a.tmps) = true then Oper.wp P o a w Kc Q else E := by
  have hw : Region.wanted o (yielded ops a.tmps) = true := by simp [Region.wanted, hg]
  rw [if_pos hw]
  obtain ⟨w', hrun, r1, r2⟩ := hown.store K ht hn hkey hval
  unfold Oper.wp
  simp [execOp, hop, hm, hx, hv, hrun, Result.andThen]
  exact h w' r1 r2
end

variable {base : Nat} {w0 w w' : World} {p m : Nat} {L L' : Po} {F : Fo} {id : Int} {es : List Addr} {e : Ps}

set_option maxRecDepth 100000 in
theorem fnew_any (w : World) : Calls Tryd.prog 8 #[] w fun e w' => e = .returned (.pointer (some ⟨w.heap.size + 1, 0, none⟩)) ∧ Below w.heap.size w w' ∧ ∀ base, base ≤ w.heap.size → Pf base w' (w.heap.size + 1) w.heap.size [] := by
  have H0 := hid (World.ownsMap_made w Tryd.prog 3 ptR)
  have hmm := @run_makeMap Tryd.prog
  go_enter Tryd.func8, Tryd.ntmps8
  go_wp2
  go_ret
  have hb : Below w.heap.size w (w.alloc (.map #[] 0)) := (Below.refl w.heap.size w).alloc (Nat.le_refl _) _
  refine ⟨by simp, hb.alloc hb.size _, fun base hbase => ⟨by omega, hbase, by omega, ?_, ⟨_, H0.out.alloc _, rp_empty _ _⟩, List.nodup_nil, ?_, ?_, ?_, ?_, ?_⟩⟩
  · have := heap_alloc_new (w.alloc (.map #[] 0)) (.cells #[.map (some w.heap.size)] 54 (0, 0))
    simpa using this
  · intro x e h
    cases h
  · intro x e h
    cases h
  · intro x e h
    cases h
  · intro x y e e' h
    cases h
  · intro x e h
    cases h

theorem keys_app {α : Type} {l : List (Int × α)} {id : Int} (h : (keys l).Nodup) (hn : gt l id = none) (q : α) : (keys (l ++ [(id, q)])).Nodup := by
  have := keys_wr h id q
  rw [wr, hn] at this
  exact this
/-- A new surface. -/
theorem Pf.add {W : World} (h : Pf base w0 p m L) (hn : gt L id = none) (hb : Below w0.heap.size w0 W) {g : Nat} (hg : w0.heap.size ≤ g) {r : Sx} (hB : Bk W g 58 (pcs ⟨0, false, sx0, sx0, r⟩).toArray) (hr : r.Ok W) (hnew : r.New w0.heap.size) (hrg : ∀ z ∈ [r.dm, r.fr, r.rg, r.od], z.Frb g) (hrp : g ∉ r.pl.bl) (ho : W.ownsRow w0.heap.size 46 3 r.pl.v r.pl.n (mcs r.pl.l)) (hp : r.Plf) (hq : r.q = sqA)
    {D : DataW Unit} (hD : Rp ptd none D (pmp L)) {n : Nat} (hw : w'.ownsMap Tryd.prog 3 ptR m n (D.put (.int .i64 id) (ptd (some g)))) (hDm : Maps.IsMap D) (ht : W.mapTurned w' m) :
    PfR base w0 p m L (pab L ++ [(id, sf0)]) w' (L ++ [(id, ⟨g, ⟨0, false, sx0, sx0, r⟩⟩)]) := by
  have hk := kp_turned ht
  obtain ⟨hlp, hlm⟩ := h.lt
  have hlo := h.lop
  have hgw : g < W.heap.size := hB.lt
  have hW := h.on hb
  have hk0 : Kp [m] w0 w' := (kp_of_below hb [m]).trans hk (fun b hb _ => hb)
  obtain ⟨E, hE⟩ : ∃ E : Ps, E = ⟨g, ⟨0, false, sx0, sx0, r⟩⟩ := ⟨_, rfl⟩
  have hgt : ∀ x e', gt (L ++ [(id, E)]) x = some e' → (x = id ∧ e' = E) ∨ (x ≠ id ∧ gt L x = some e') := fun x e' hx => by
    rw [gt_app] at hx
    by_cases hxi : x = id
    · subst hxi
      rw [hn] at hx
      simp only [Option.isSome_none, Bool.false_eq_true, if_false, if_true, Option.some.injEq] at hx
      exact .inl ⟨rfl, hx.symm⟩
    · refine .inr ⟨hxi, ?_⟩
      split at hx
      · exact hx
      · rw [if_neg (fun e => hxi e.symm)] at hx
        cases hx
  have hwb : ∀ b ∈ wb E, w0.heap.size ≤ b ∧ b < W.heap.size := fun b hb' => by
    subst hE
    rcases mem_wb.1 hb' with rfl | ⟨x, hx, hbx⟩
    · exact ⟨hg, hgw⟩
    · simp only [wos, List.mem_cons, List.not_mem_nil, or_false] at hx
      rcases hx with rfl | rfl | rfl | rfl | rfl
      · simp [sx0, sl0, Sl.bl, Sl.v, Value.ownBlock] at hbx
      · simp [sx0, sl0, Sl.bl, Sl.v, Value.ownBlock] at hbx
      · simp [sx0, sl0, Sl.bl, Sl.v, Value.ownBlock] at hbx
      · simp [sx0, sl0, Sl.bl, Sl.v, Value.ownBlock] at hbx
      · exact own_blk ho hbx
  have hros : ∀ z ∈ ros E.s, (z.a = none) ∨ z ∈ [r.dm, r.fr, r.rg, r.od] := fun z hz => by
    subst hE
    simp only [ros, List.mem_cons, List.not_mem_nil, or_false] at hz
    rcases hz with rfl | rfl | rfl | rfl | rfl | rfl | rfl | rfl | rfl | rfl
    · exact .inl rfl
    · exact .inl rfl
    · exact .inl rfl
    · exact .inl rfl
    · exact .inl rfl
    · exact .inl rfl
    · exact .inr (by simp)
    · exact .inr (by simp)
    · exact .inr (by simp)
    · exact .inr (by simp)
  have hrnew : ∀ z ∈ [r.dm, r.fr, r.rg, r.od], ∀ y, z.a = some y → w0.heap.size ≤ y.block := fun z hz => by
    simp only [List.mem_cons, List.not_mem_nil, or_false] at hz
    rcases hz with rfl | rfl | rfl | rfl
    · exact hnew.dm
    · exact hnew.fr
    · exact hnew.rg
    · exact hnew.od
  have hfar : ∀ z ∈ ros E.s, ∀ b, b < w0.heap.size → z.Frb b := fun z hz b hb' y hy _ e1 => by
    rcases hros z hz with h1 | h1
    · rw [h1] at hy
      cases hy
    · have := hrnew z h1 y hy
      omega
  have hown : E.s.Own base W := by
    subst hE
    exact ⟨⟨sx0_ok W, sx0_ok W, hr⟩, World.ownsRow_nil _ _ _ _, World.ownsRow_nil _ _ _ _, World.ownsRow_nil _ _ _ _, World.ownsRow_nil _ _ _ _, ownsRow_low ho (by omega)⟩
  have hnm : ∀ b ∈ wb E, b ∉ [m] := fun b hb' hm => by
    have := (hwb b hb').1
    simp only [List.mem_cons, List.not_mem_nil, or_false] at hm
    omega
  have hplf : ∀ z ∈ [r.dm, r.fr, r.rg, r.od], ∀ b ∈ r.pl.bl, z.Frb b := fun z hz b hb' y hy hn' e1 => by
    obtain ⟨u, hu, e2⟩ := bl_of.1 hb'
    have := hp u hu y
    simp only [List.mem_cons, List.not_mem_nil, or_false] at hz
    rcases hz with rfl | rfl | rfl | rfl
    · exact this.1 hy hn' (e1.trans e2.symm)
    · exact this.2.1 hy hn' (e1.trans e2.symm)
    · exact this.2.2.1 hy hn' (e1.trans e2.symm)
    · exact this.2.2.2 hy hn' (e1.trans e2.symm)
  have hself : ∀ b ∈ wb E, ∀ z ∈ ros E.s, z.Frb b := fun b hb' z hz => by
    rcases hros z hz with h1 | h1
    · intro y hy
      rw [h1] at hy
      cases hy
    · subst hE
      rcases mem_wb.1 hb' with rfl | ⟨x, hx, hbx⟩
      · exact hrg z h1
      · simp only [wos, List.mem_cons, List.not_mem_nil, or_false] at hx
        rcases hx with rfl | rfl | rfl | rfl | rfl
        · simp [sx0, sl0, Sl.bl, Sl.v, Value.ownBlock] at hbx
        · simp [sx0, sl0, Sl.bl, Sl.v, Value.ownBlock] at hbx
        · simp [sx0, sl0, Sl.bl, Sl.v, Value.ownBlock] at hbx
        · simp [sx0, sl0, Sl.bl, Sl.v, Value.ownBlock] at hbx
        · exact hplf z h1 b hbx
  have hsep : Sep E := by
    subst hE
    refine ⟨fun x hx hm => ?_, fun i j x y b hx hy hbx hby => ?_⟩
    · simp only [wos, List.mem_cons, List.not_mem_nil, or_false] at hx
      rcases hx with rfl | rfl | rfl | rfl | rfl
      · simp [sx0, sl0, Sl.bl, Sl.v, Value.ownBlock] at hm
      · simp [sx0, sl0, Sl.bl, Sl.v, Value.ownBlock] at hm
      · simp [sx0, sl0, Sl.bl, Sl.v, Value.ownBlock] at hm
      · simp [sx0, sl0, Sl.bl, Sl.v, Value.ownBlock] at hm
      · exact hrp hm
    · have hone : ∀ (i : Nat) x, (wos (⟨0, false, sx0, sx0, r⟩ : Sr))[i]? = some x → b ∈ x.bl → i = 4 := fun i x hx hbx => by
        match i, hx with
        | 0, hx => cases hx; simp [sx0, sl0, Sl.bl, Sl.v, Value.ownBlock] at hbx
        | 1, hx => cases hx; simp [sx0, sl0, Sl.bl, Sl.v, Value.ownBlock] at hbx
        | 2, hx => cases hx; simp [sx0, sl0, Sl.bl, Sl.v, Value.ownBlock] at hbx
        | 3, hx => cases hx; simp [sx0, sl0, Sl.bl, Sl.v, Value.ownBlock] at hbx
        | 4, hx => rfl
        | i + 5, hx => simp [wos] at hx
      rw [hone i x hx hbx, hone j y hy hby]
  have hpm : pmp (L ++ [(id, E)]) = wr (pmp L) id (some g) := by
    rw [wr, gt_pmp, hn, pmp, List.map_append, hE]
    rfl
  have hRp : Rp ptd none (D.put (.int .i64 id) (ptd (some g))) (pmp (L ++ [(id, E)])) := by
    rw [hpm]
    exact hD.put hDm id (some g)
  have hnd : (keys (L ++ [(id, E)])).Nodup := keys_app h.nd hn E
  rw [← hE]
  refine ⟨⟨h.lop, h.lom, h.ne, hk0.var h.obj (by simpa using h.ne), ⟨_, ?_, hRp⟩, hnd, fun x e' hx => ?_, fun x e' hx => ?_, fun x e' hx => ?_, fun x y e1 e2 h1 h2 hne b hb1 => ?_, fun x e' hx z hz => ?_⟩, ?_, hk0.mono (fun b hb _ => by simp only [List.mem_cons, List.not_mem_nil, or_false] at hb; rw [hb]; exact List.mem_cons_self), fun b hb' => ?_, fun b hb' ho x e1 h1 z hz => ?_⟩
  · have := ptight hw Tryd.underlying3 hRp (by rw [pmp_keys]; exact hnd)
    rw [pmp_length] at this
    exact this
  · rcases hgt x e' hx with ⟨_, rfl⟩ | ⟨hne, hx⟩
    · have : e'.g ∉ [m] := hnm _ (mem_wb.2 (.inl rfl))
      subst hE
      exact hk.var hB.obj this
    · exact hk0.var (h.srf x e' hx) (by simpa using ((h.sep x e' hx).2 e'.g (mem_wb.2 (.inl rfl))).2.2.1)
  · rcases hgt x e' hx with ⟨_, rfl⟩ | ⟨hne, hx⟩
    · exact hown.kp hk hnm (fun z hz b hb' => hfar z hz b (by simp only [List.mem_cons, List.not_mem_nil, or_false] at hb'; omega))
    · exact (h.rows x e' hx).kp hk0 (fun b hb' hm => ((h.sep x e' hx).2 b hb').2.2.1 (by simpa using hm)) (fun z hz b hb' => by simp only [List.mem_cons, List.not_mem_nil, or_false] at hb'; rw [hb']; exact (h.far x e' hx z hz).2)
  · rcases hgt x e' hx with ⟨_, rfl⟩ | ⟨hne, hx⟩
    · refine ⟨hsep, fun b hb' => ?_⟩
      have := hwb b hb'
      exact ⟨by omega, by omega, by omega, hself b hb'⟩
    · exact h.sep x e' hx
  · rcases hgt x e1 h1 with ⟨hx1, rfl⟩ | ⟨hne1, g1⟩
    · rcases hgt y e2 h2 with ⟨hy2, _⟩ | ⟨hne2, g2⟩
      · exact absurd (hx1.trans hy2.symm) hne
      · have hl := (hwb b hb1).1
        refine ⟨fun hm => ?_, fun z hz => (h.rows y e2 g2).ros hz hl⟩
        have := (h.wlt g2 hm).2
        omega
    · rcases hgt y e2 h2 with ⟨_, rfl⟩ | ⟨hne2, g2⟩
      · have hl := (h.wlt g1 hb1).2
        refine ⟨fun hm => ?_, fun z hz => hfar z hz b hl⟩
        have := (hwb b hm).1
        omega
      · exact h.sep2 x y e1 e2 g1 g2 hne b hb1
  · rcases hgt x e' hx with ⟨_, rfl⟩ | ⟨hne, hx⟩
    · exact ⟨hfar z hz p hlp, hfar z hz m hlm⟩
    · exact h.far x e' hx z hz
  · rw [pab, List.map_append, ← pab, hE]
    simp only [List.map_cons, List.map_nil, Sr.f, sx0_q, hq]
    rfl
  · obtain ⟨x, e1, h1, h2⟩ := (mem_wbs hnd).1 hb'
    rcases hgt x e1 h1 with ⟨_, rfl⟩ | ⟨hne1, g1⟩
    · exact .inr (hwb b h2).1
    · exact .inl ((mem_wbs h.nd).2 ⟨x, e1, g1, h2⟩)
  · rcases hgt x e1 h1 with ⟨_, rfl⟩ | ⟨hne1, g1⟩
    · exact hfar z hz b hb'
    · exact ho x e1 g1 z hz

set_option maxRecDepth 100000 in
set_option maxHeartbeats 2000000 in
theorem fadd_any (hE : Fe w es) (h : Pf base w p m L) (id : Int) (hi : Bt id) (hl : L.length ≤ 40) :
    Calls Tryd.prog 9 #[.pointer (some ⟨p, 0, none⟩), .int .i64 id] w fun e w' => e = .returned (erv es (addE (pab L) id)) ∧ ∃ L', PfR base w p m L (addF (pab L) id) w' L' := by
  have HNO : Hid (∀ k, addE (pab L) id = k → k ≠ 0 → PfR base w p m L (addF (pab L) id) w L) := fun k hk h0 => (PfR.refl h (Below.refl _ _)).as (by rw [addF, if_neg (by rw [hk]; exact h0)])
  cases h1 : decide (id < 1)
  · have h1' : ¬ id < 1 := by simpa using h1
    have HH := hid (fhas_any h id hi)
    cases h2 : (gt L id).isSome
    · rw [h2] at HH
      have hgn : gt L id = none := by simpa using h2
      have hgp : (gt (pab L) id).isSome = false := by rw [gt_pab, hgn]; rfl
      obtain ⟨D, ho, hD⟩ := h.own
      have hsz := psize ho Tryd.underlying3 hD (by rw [pmp_keys]; exact h.nd)
      rw [pmp_length] at hsz
      have HLEN : Hid (∀ ty, (Builtin.len_ #[52] ty #[.map (some m)]).run Tryd.prog w = .ok (.int .i64 (L.length : Nat)) w) := fun ty => by
        rw [← hsz]
        exact ho.len Tryd.underlying52 ty
      have c0 := h.c0
      have l0 := h.lt.1
      cases h3 : decide ((40 : Int) ≤ (L.length : Nat))
      · have h3' : ¬ 40 ≤ L.length := fun h' => by
          have := of_decide_eq_false h3
          omega
        have HV : Hid (addE (pab L) id = 0) := by rw [Hid, addE, if_neg h1', hgp, pab_length, if_neg h3']; rfl
        have HVF : Hid (addF (pab L) id = pab L ++ [(id, sf0)]) := by rw [Hid, addF, if_pos HV.out]
        have HOM : Hid (∀ W : World, Below w.heap.size w W → W.ownsMap Tryd.prog 3 ptR m L.length D ∧ W.cell? ⟨p, 0, none⟩ = some (.map (some m)) ∧ p < W.heap.size) := fun W hW => ⟨pown_kp ho (kp_of_below hW []) (by simp), (h.on hW).c0, (h.on hW).lt.1⟩
        have HK := hid (kBt id hi)
        have HFIN : Hid (∀ (W W' : World) (g : Nat) (r : Sx), Below w.heap.size w W → w.heap.size ≤ g → Bk W g 58 (pcs ⟨0, false, sx0, sx0, r⟩).toArray → r.Ok W → r.New w.heap.size → (∀ z ∈ [r.dm, r.fr, r.rg, r.od], z.Frb g) → g ∉ r.pl.bl → W.ownsRow w.heap.size 46 3 (.slice r.pl.a r.pl.n r.pl.c) r.pl.n (mcs r.pl.l) → r.Plf → r.q = sqA → W'.ownsMap Tryd.prog 3 ptR m (L.length + 1) (D.put (.int .i64 id) (ptd (some g))) → W.mapTurned W' m → ∃ L', PfR base w p m L (addF (pab L) id) W' L') :=
          fun W W' g r hb hg hB hr hn' hrg hrp hor hpf hrq hom hmt => ⟨_, (h.add hgn hb hg hB hr hn' hrg hrp hor hpf hrq hD hom ho.isMap hmt).as HVF.out.symm⟩
        rw [HV.out]
        clear hE h HNO HV HVF ho hD h1' hgn hgp hsz h3' h2
        go_enter Tryd.func9, Tryd.ntmps9
        go_wp2_with fail
        refine HH.out.mono ?_
        rintro e' w1 ⟨rfl, hw1⟩
        obtain rfl : w = w1 := hw1.symm
        clear hw1 HH
        have HL1 := HLEN.out
        go_upto_region 7 with fail
        clear HL1 HLEN c0
        refine wp_region_gate_drew (g := 8) (S := RowKit.Below w.heap.size w) (by kernel_rfl) ?hh (fun hHeld => ?_)
        case hh => exact ((Below.refl _ _).drew)
        generalize w.drew = W0 at hHeld ⊢
        try dsimp only at hHeld
        refine wpAnyG_take (i := 0) (v := ?_) rfl (by kernel_rfl) (by kernel_rfl) (by kernel_rfl) (by kernel_rfl) (fun _ _ _ h => h) (Or.inl ⟨by kernel_rfl, ?hy0⟩) (by assumption) ?_
        case hy0 => (intro wI hSw; (try dsimp only at hSw); obtain ⟨_, t1, t2⟩ := HOM.out _ hSw; go_simp; try with_reducible rfl)
        try simp only [Act.put, List.getElem_toArray, List.getElem_cons_zero, List.setIfInBounds_toArray, List.set_cons_zero, List.set_cons_succ]
        refine wpAnyG_take (i := 1) (v := ?_) rfl (by kernel_rfl) (by kernel_rfl) (by kernel_rfl) (by kernel_rfl) (fun _ _ _ h => h) (Or.inl ⟨by kernel_rfl, ?hy1⟩) (by assumption) ?_
        case hy1 => (intro wI hSw; (try dsimp only at hSw); obtain ⟨_, t1, t2⟩ := HOM.out _ hSw; go_simp; try with_reducible rfl)
        try simp only [Act.put, List.getElem_toArray, List.getElem_cons_zero, List.getElem_cons_succ, List.setIfInBounds_toArray, List.set_cons_zero, List.set_cons_succ]
        refine wpAnyG_take (i := 2) (v := ?_) rfl (by kernel_rfl) (by kernel_rfl) (by kernel_rfl) (by kernel_rfl) (fun _ _ _ h => h) (Or.inl ⟨by kernel_rfl, ?hy2⟩) (by assumption) ?_
        case hy2 => (intro wI hSw; (try dsimp only at hSw); obtain ⟨_, t1, t2⟩ := HOM.out _ hSw; go_simp; try with_reducible rfl)
        try simp only [Act.put, List.getElem_toArray, List.getElem_cons_zero, List.getElem_cons_succ, List.setIfInBounds_toArray, List.set_cons_zero, List.set_cons_succ]
        refine wpAnyG_take (i := 3) (v := ?_) rfl (by kernel_rfl) (by kernel_rfl) (by kernel_rfl) (by kernel_rfl) (fun _ _ _ h => h) (Or.inl ⟨by kernel_rfl, ?hy3⟩) (by assumption) ?_
        case hy3 => (intro wI hSw; (try dsimp only at hSw); obtain ⟨_, t1, t2⟩ := HOM.out _ hSw; go_simp; try with_reducible rfl)
        try simp only [Act.put, List.getElem_toArray, List.getElem_cons_zero, List.getElem_cons_succ, List.setIfInBounds_toArray, List.set_cons_zero, List.set_cons_succ]
        refine wpAnyG_take (i := 4) (v := ?_) rfl (by kernel_rfl) (by kernel_rfl) (by kernel_rfl) (by kernel_rfl) (fun _ _ _ h => h) (Or.inl ⟨by kernel_rfl, ?hy4⟩) (by assumption) ?_
        case hy4 => (intro wI hSw; (try dsimp only at hSw); obtain ⟨_, t1, t2⟩ := HOM.out _ hSw; go_simp; try with_reducible rfl)
        try simp only [Act.put, List.getElem_toArray, List.getElem_cons_zero, List.getElem_cons_succ, List.setIfInBounds_toArray, List.set_cons_zero, List.set_cons_succ]
        refine wpAnyG_ready (rs := [5]) (by kernel_rfl) (by simp) ?_
        refine AllReadyG.cons rfl (fun K hK => ?_) AllReadyG.nil
        go_simp
        go_wp2_with fail
        refine (firsto_any _).mono ?_
        rintro e' W5 ⟨r, rfl, okr, nwr, hqr, hbr, owr, plr⟩
        have hH2 := Below.on hHeld hbr
        have HR := hid (show r.Ok W5 ∧ r.New w.heap.size ∧ r.q = sqF ∧ W5.ownsRow w.heap.size 46 3 (.slice r.pl.a r.pl.n r.pl.c) r.pl.n (mcs r.pl.l) ∧ r.Plf from ⟨okr, nwr.low hHeld.size, hqr, ownsRow_low owr hHeld.size, plr⟩)
        refine hK.out _ _ hH2 (fun _ => ?_)
        clear hK K hHeld okr nwr hqr hbr owr plr
        have hHeld := hH2
        clear hH2
        try simp only [Act.put, List.getElem_toArray, List.getElem_cons_zero, List.getElem_cons_succ, List.setIfInBounds_toArray, List.set_cons_zero, List.set_cons_succ]
        refine wpAnyG_take (i := 6) (v := ?_) rfl (by kernel_rfl) (by kernel_rfl) (by kernel_rfl) (by kernel_rfl) (fun _ _ _ h => h) (Or.inl ⟨by kernel_rfl, ?hy6⟩) (by assumption) ?_
        case hy6 => (intro wI hSw; (try dsimp only at hSw); obtain ⟨_, t1, t2⟩ := HOM.out _ hSw; go_simp; try with_reducible rfl)
        try simp only [Act.put, List.getElem_toArray, List.getElem_cons_zero, List.getElem_cons_succ, List.setIfInBounds_toArray, List.set_cons_zero, List.set_cons_succ]
        refine wpAnyG_ready (rs := [7]) (by kernel_rfl) (by simp) ?_
        refine AllReadyG.cons rfl (fun K hK => ?_) AllReadyG.nil
        have hb7 := bel_new W5 (.cells #[.bool false, .int .i64 0, .slice none 0 0, .slice none 0 0, .bool false, .bool false, .slice none 0 0, .bool false, .slice none 0 0, .slice none 0 0, .bool false, .int .i64 0, .slice none 0 0, .slice none 0 0, .bool false, .bool false, .slice none 0 0, .bool false, .slice none 0 0, .slice none 0 0, .bool r.at_, .int .i64 r.buf, .slice r.dm.a r.dm.n r.dm.c, .slice r.fr.a r.fr.n r.fr.c, .bool r.inp, .bool r.all, .slice r.rg.a r.rg.n r.rg.c, .bool r.ord, .slice r.od.a r.od.n r.od.c, .slice r.pl.a r.pl.n r.pl.c, .int .i64 0, .bool false] 58)
        have hH2 := Below.on hHeld hb7
        have hg7 : w.heap.size ≤ W5.heap.size := hHeld.size
        have HB7 := hid (bk_new W5 #[.bool false, .int .i64 0, .slice none 0 0, .slice none 0 0, .bool false, .bool false, .slice none 0 0, .bool false, .slice none 0 0, .slice none 0 0, .bool false, .int .i64 0, .slice none 0 0, .slice none 0 0, .bool false, .bool false, .slice none 0 0, .bool false, .slice none 0 0, .slice none 0 0, .bool r.at_, .int .i64 r.buf, .slice r.dm.a r.dm.n r.dm.c, .slice r.fr.a r.fr.n r.fr.c, .bool r.inp, .bool r.all, .slice r.rg.a r.rg.n r.rg.c, .bool r.ord, .slice r.od.a r.od.n r.od.c, .slice r.pl.a r.pl.n r.pl.c, .int .i64 0, .bool false] 58)
        have HR7 := hid (show r.Ok (W5.alloc (.cells #[.bool false, .int .i64 0, .slice none 0 0, .slice none 0 0, .bool false, .bool false, .slice none 0 0, .bool false, .slice none 0 0, .slice none 0 0, .bool false, .int .i64 0, .slice none 0 0, .slice none 0 0, .bool false, .bool false, .slice none 0 0, .bool false, .slice none 0 0, .slice none 0 0, .bool r.at_, .int .i64 r.buf, .slice r.dm.a r.dm.n r.dm.c, .slice r.fr.a r.fr.n r.fr.c, .bool r.inp, .bool r.all, .slice r.rg.a r.rg.n r.rg.c, .bool r.ord, .slice r.od.a r.od.n r.od.c, .slice r.pl.a r.pl.n r.pl.c, .int .i64 0, .bool false] 58)) ∧ r.New w.heap.size ∧ r.q = sqF ∧ (W5.alloc (.cells #[.bool false, .int .i64 0, .slice none 0 0, .slice none 0 0, .bool false, .bool false, .slice none 0 0, .bool false, .slice none 0 0, .slice none 0 0, .bool false, .int .i64 0, .slice none 0 0, .slice none 0 0, .bool false, .bool false, .slice none 0 0, .bool false, .slice none 0 0, .slice none 0 0, .bool r.at_, .int .i64 r.buf, .slice r.dm.a r.dm.n r.dm.c, .slice r.fr.a r.fr.n r.fr.c, .bool r.inp, .bool r.all, .slice r.rg.a r.rg.n r.rg.c, .bool r.ord, .slice r.od.a r.od.n r.od.c, .slice r.pl.a r.pl.n r.pl.c, .int .i64 0, .bool false] 58)).ownsRow w.heap.size 46 3 (.slice r.pl.a r.pl.n r.pl.c) r.pl.n (mcs r.pl.l) ∧ r.Plf from ⟨HR.out.1.on hb7, HR.out.2.1, HR.out.2.2.1, ownsRow_below HR.out.2.2.2.1 hb7, HR.out.2.2.2.2⟩)
        have HG7 := hid (show (∀ z ∈ [r.dm, r.fr, r.rg, r.od], z.Frb W5.heap.size) ∧ W5.heap.size ∉ r.pl.bl from ⟨fun z hz => by simp only [List.mem_cons, List.not_mem_nil, or_false] at hz; (rcases hz with rfl | rfl | rfl | rfl); exact far_old HR.out.1.dm (Nat.le_refl _); exact far_old HR.out.1.fr (Nat.le_refl _); exact far_old HR.out.1.rg (Nat.le_refl _); exact far_old HR.out.1.od (Nat.le_refl _), fun hm => by have := (own_blk (x := r.pl) HR.out.2.2.2.1 hm).2; omega⟩)
        go_simp
        refine hK.out _ _ hH2 (fun _ => ?_)
        clear hK K hHeld hb7 HR
        generalize W5.alloc (.cells #[.bool false, .int .i64 0, .slice none 0 0, .slice none 0 0, .bool false, .bool false, .slice none 0 0, .bool false, .slice none 0 0, .slice none 0 0, .bool false, .int .i64 0, .slice none 0 0, .slice none 0 0, .bool false, .bool false, .slice none 0 0, .bool false, .slice none 0 0, .slice none 0 0, .bool r.at_, .int .i64 r.buf, .slice r.dm.a r.dm.n r.dm.c, .slice r.fr.a r.fr.n r.fr.c, .bool r.inp, .bool r.all, .slice r.rg.a r.rg.n r.rg.c, .bool r.ord, .slice r.od.a r.od.n r.od.c, .slice r.pl.a r.pl.n r.pl.c, .int .i64 0, .bool false] 58) = W7 at *
        have hHeld := hH2
        clear hH2
        try simp only [Act.put, List.getElem_toArray, List.getElem_cons_zero, List.getElem_cons_succ, List.setIfInBounds_toArray, List.set_cons_zero, List.set_cons_succ]
        have hG := hHeld
        clear hHeld
        have hHeld : True := trivial
        refine wpAnyG_gateOp rfl (by kernel_rfl) (fun K hK => ?_)
        refine step_mapUpdate_own rfl (.tmp 22) (.tmp 23) (.tmp 26) 52 rfl 3 55 (Maps.int_keyed Tryd.underlying3) Tryd.underlying52 ptR m _ D (by simp [Act.eval]) (HOM.out _ hG).1 (by simp only [maxLen]; omega) _ _ _ rfl rfl HK.out _ _ (ptR_mk (some _)) ?_
        intro W8 o8 t8
        have HX := hid (HFIN.out _ _ _ r hG hg7 HB7.out HR7.out.1 HR7.out.2.1 HG7.out.1 HG7.out.2 HR7.out.2.2.2.1 HR7.out.2.2.2.2 HR7.out.2.2.1 o8 t8)
        clear o8 t8
        refine hK.out _ _ trivial (fun _ => ?_)
        clear hK K
        try simp only [Act.put, List.getElem_toArray, List.getElem_cons_zero, List.getElem_cons_succ]
        refine wpAnyH_done (by kernel_rfl) ?_ _
        go_wp2_with fail
        go_ret
        exact ⟨rfl, HX.out⟩
      · have h3' : 40 ≤ L.length := by
          have := of_decide_eq_true h3
          omega
        have HV : Hid (addE (pab L) id = 4) := by rw [Hid, addE, if_neg h1', hgp, pab_length, if_pos h3']; rfl
        have HX := hid (HNO.out 4 HV.out (by decide))
        have c1 := hE.big
        have l1 := World.block_lt_of_cell? _ _ c1
        rw [HV.out]
        clear hE h HNO HV ho hD h1' hgn hgp hsz h3' h2
        go_enter Tryd.func9, Tryd.ntmps9
        go_wp2_with fail
        refine HH.out.mono ?_
        rintro e' w1 ⟨rfl, hw1⟩
        obtain rfl : w = w1 := hw1.symm
        clear hw1 HH
        have HL1 := HLEN.out
        go_wp2
        go_ret
        exact ⟨rfl, _, HX.out⟩
    · have HV : Hid (addE (pab L) id = 5) := by
        rw [Hid, addE, if_neg h1', gt_pab]
        obtain ⟨e, he⟩ := Option.isSome_iff_exists.1 h2
        rw [he]
        rfl
      rw [h2] at HH
      have HX := hid (HNO.out 5 HV.out (by decide))
      have c1 := hE.obj
      have l1 := World.block_lt_of_cell? _ _ c1
      rw [HV.out]
      clear hE h HNO HV h2 h1'
      go_enter Tryd.func9, Tryd.ntmps9
      go_wp2_with fail
      refine HH.out.mono ?_
      rintro e' w1 ⟨rfl, hw1⟩
      obtain rfl : w = w1 := hw1.symm
      clear hw1 HH
      go_wp2
      go_ret
      exact ⟨rfl, _, HX.out⟩
  · have HV : Hid (addE (pab L) id = 1) := by rw [Hid, addE, if_pos (by simpa using h1)]
    have HX := hid (HNO.out 1 HV.out (by decide))
    have c1 := hE.arg
    have l1 := World.block_lt_of_cell? _ _ c1
    rw [HV.out]
    clear hE h HNO HV
    go_enter Tryd.func9, Tryd.ntmps9
    go_wp2
    go_ret
    exact ⟨rfl, _, HX.out⟩
end Go.Proofs.YtdgknofpkafppaaDoor

/- The program's forest: Sub. -/
namespace Go.Proofs.YtdgknofpkafppaaDoor
open Go Go.RowKit

variable {base : Nat} {w0 w w' : World} {p m : Nat} {L L' : Po} {F : Fo} {id : Int} {es : List Addr} {e : Ps}
theorem upd_upd (F : Fo) (x : Int) (f g : Sf → Sf) : upd (upd F x f) x g = upd F x (fun s => g (f s)) := by
  cases h : gt F x with
  | none => rw [upd, upd, upd, h]; simp [h]
  | some s =>
    rw [upd, gt_upd, if_pos rfl, h]
    simp only [Option.map_some]
    rw [upd, h, upd, h]
    simp only [st, List.map_map]
    refine List.map_congr_left fun e _ => ?_
    simp only [Function.comp]
    split
    · simp
    · rfl
theorem upd_at {F : Fo} {x : Int} {s : Sf} (h : gt F x = some s) {f g : Sf → Sf} (hf : f s = g s) : upd F x f = upd F x g := by rw [upd, upd, h]; simp only [hf]

/-- What Sub leaves: both surfaces are there, the first is nobody's and not above the other. -/
theorem Pf.subbed (h : Pf base w p m L) {y : Int} {e ep : Ps} (he : gt L id = some e) (hep : gt L y = some ep) (hne : y ≠ id) (h0 : subE (pab L) id y = 0) {w1 : World} (hb : Below w.heap.size w w1) :
    ∃ W1 L1, W1 = (w1.setCell ⟨e.g, 30, none⟩ (.int .i64 y)).setCell ⟨e.g, 31, none⟩ (.bool true) ∧ Pf base W1 p m L1 ∧ gt L1 y = some ep ∧ Below base w W1 ∧
      ∀ (W2 : World) (l : Sl), l.l = sg (dr id (un1 (lat ep.s.f)) ++ [id]) → ∀ L2, PfR base W1 p m L1 (upd (pab L1) y (ordS l.l)) W2 L2 → L2 = st L1 y ⟨ep.g, { ep.s with pe := { ep.s.pe with ord := true, od := l } }⟩ →
        ∀ (W3 : World) (v : Value), OwM 3 46 W2 W3 v (put1 ep.s.pe.pl.l [id, 0, 0]) → ∃ k : Sl, v = .slice k.a k.n k.c ∧ W3.cell? ⟨ep.g, 9, none⟩ = some (.slice ep.s.pe.pl.a ep.s.pe.pl.n ep.s.pe.pl.c) ∧ (∀ j, W3.frozen? ⟨ep.g, j, none⟩ = false) ∧ ep.g < W3.heap.size ∧ ∃ L', PfR base w p m L (subF (pab L) id y) (W3.setCell ⟨ep.g, 9, none⟩ (.slice k.a k.n k.c)) L' := by
  have hr1 := h.putPS he hb y true
  have hep1 : gt (st L id ⟨e.g, { e.s with par := y, syn := true }⟩) y = some ep := by rw [gt_st, if_neg hne]; exact hep
  refine ⟨_, _, rfl, hr1.pf, hep1, hr1.bel h, fun W2 l hl L2 hr2 hL2 W3 v ho => ?_⟩
  obtain ⟨k, rfl, hn, hk, hrd, hown⟩ := own_sl ho.own rfl ho.size
  have hep2 : gt L2 y = some ⟨ep.g, { ep.s with pe := { ep.s.pe with ord := true, od := l } }⟩ := by
    rw [hL2, gt_st, if_pos rfl, hep1]
    rfl
  have h2 := hr2.pf
  have h3 := h2.on ho.bel
  have hfz := h3.fz hep2
  have hwl := (h3.wlt hep2 (mem_wb.2 (.inl rfl))).2
  refine ⟨k, rfl, h3.cell hep2, hfz, hwl, _, ((hr1.trans hr2).trans (h2.putPl hep2 ho.bel k hrd hown (plcS [id, 0, 0]) ?_)).as ?_⟩
  · simp only [Sr.f, Sx.q, plcS, hk]
  · rw [hr2.ab, hr1.ab, upd_upd, subF, if_pos h0]
    refine upd_at (s := ep.s.f) (by rw [← hr1.ab, gt_pab, hep1]; rfl) ?_
    rw [hl]

set_option maxRecDepth 100000 in
set_option maxHeartbeats 1000000 in
theorem fsub_any (hE : Fe w es) (hB : 5 ≤ base) (h : Pf base w p m L) (hN : Nok L) (hL : Few L) (id y : Int) (hi : Bt id) (hj : Bt y) :
    Calls Tryd.prog 10 #[.pointer (some ⟨p, 0, none⟩), .int .i64 id, .int .i64 y] w fun e w' => e = .returned (erv es (subE (pab L) id y)) ∧ ∃ L', PfR base w p m L (subF (pab L) id y) w' L' := by
  have HF := hid (ffind_any hE h id hi)
  have HNO : Hid (∀ k, subE (pab L) id y = k → k ≠ 0 → ∀ q, PfR base w p m L (subF (pab L) id y) (w.drewN q) L) := fun k hk h0 q => (PfR.refl h (below_drewN (Below.refl _ _) q)).as (by rw [subF, if_neg (by rw [hk]; exact h0)])
  have HF2 : Hid (∀ q, Calls Tryd.prog 28 #[.pointer (some ⟨p, 0, none⟩), .int .i64 y] (w.drewN q) fun e w' => e = .returned (.tuple #[ptv (pto L y), erv es (hasE (pab L) y)]) ∧ ∃ q, w' = w.drewN q) := fun q => (ffind_any (hE.drewN q) (h.drewN q) y hj).mono fun e w' ⟨h1, q1, h2⟩ => ⟨h1, q + q1, by rw [h2]; simp⟩
  cases hq : gt L id with
  | none =>
    have HS : Hid (pto L id = none ∧ hasE (pab L) id = 5) := ⟨by rw [pto, hq]; rfl, by rw [hasE, gt_pab, hq]; rfl⟩
    have HV : Hid (subE (pab L) id y = 5) := by rw [Hid, subE, gt_pab, hq]; rfl
    have HX := hid (HNO.out 5 HV.out (by decide))
    rw [HS.out.1, HS.out.2] at HF
    rw [HV.out]
    clear hq h hE HS HNO HV hN hL HF2
    go_enter Tryd.func10, Tryd.ntmps10
    go_wp2_with fail
    refine HF.out.mono ?_
    rintro e w1 ⟨rfl, q1, rfl⟩
    rw [ptv_none, erv_succ]
    go_wp2
    go_ret
    exact ⟨rfl, _, HX.out q1⟩
  | some e =>
    have HS : Hid (pto L id = some e.g ∧ hasE (pab L) id = 0) := ⟨by rw [pto, hq]; rfl, by rw [hasE, gt_pab, hq]; rfl⟩
    rw [HS.out.1, HS.out.2] at HF
    clear HS
    cases hp : gt L y with
    | none =>
      have HS : Hid (pto L y = none ∧ hasE (pab L) y = 5) := ⟨by rw [pto, hp]; rfl, by rw [hasE, gt_pab, hp]; rfl⟩
      have HV : Hid (subE (pab L) id y = 5) := by rw [Hid, subE, gt_pab, gt_pab, hq, hp]; rfl
      have HX := hid (HNO.out 5 HV.out (by decide))
      rw [HS.out.1, HS.out.2] at HF2
      rw [HV.out]
      clear hq h hE HS HNO HV hN hL hp
      go_enter Tryd.func10, Tryd.ntmps10
      go_wp2_with fail
      refine HF.out.mono ?_
      rintro e w1 ⟨rfl, q1, rfl⟩
      rw [ptv_some, erv0]
      go_wp2_with fail
      refine (HF2.out q1).mono ?_
      rintro e w1 ⟨rfl, q2, rfl⟩
      rw [ptv_none, erv_succ]
      go_wp2
      go_ret
      exact ⟨rfl, _, HX.out q2⟩
    | some ep =>
      have HS : Hid (pto L y = some ep.g ∧ hasE (pab L) y = 0) := ⟨by rw [pto, hp]; rfl, by rw [hasE, gt_pab, hp]; rfl⟩
      rw [HS.out.1, HS.out.2] at HF2
      have hV : subE (pab L) id y = if e.s.par ≠ 0 then 10 else if anc (pab L) y id then 11 else 0 := by rw [subE, gt_pab, gt_pab, hq, hp]; rfl
      have c1 : w.cell? ⟨e.g, 30, none⟩ = some (.int .i64 e.s.par) := h.cell hq
      have c2 : w.cell? ⟨e.g, 31, none⟩ = some (.bool e.s.syn) := h.cell hq
      have f1 := h.fz hq
      have hlt := (h.wlt hq (mem_wb.2 (.inl rfl))).2
      cases h0 : (e.s.par != 0)
      · have h0' : e.s.par = 0 := by simpa using h0
        have HW : Hid (∀ q, Calls Tryd.prog 29 #[.pointer (some ⟨p, 0, none⟩), .int .i64 y, .int .i64 id] (w.drewN q) fun e w' => e = .returned (.bool (anc (pab L) y id)) ∧ ∃ q, w' = w.drewN q) := fun q => (fwithin_any (hE.drewN q) (h.drewN q) hN y id (by rw [hp]; rfl)).mono fun e w' ⟨h1, q1, h2⟩ => ⟨h1, q + q1, by rw [h2]; simp⟩
        rw [if_neg (by simpa using h0')] at hV
        cases ha : anc (pab L) y id
        · rw [ha] at hV HW
          have hne : y ≠ id := fun e1 => by
            rw [anc_some (s := ep.s.f) (by rw [gt_pab, hp]; rfl), e1] at ha
            simp at ha
          have HS2 := hid (fun q => h.subbed hq hp hne hV (w1 := w.drewN q) (below_drewN (Below.refl _ _) q))
          have HV : Hid (subE (pab L) id y = 0) := hV
          have HE := hid hE
          have hln := hL.lat hp
          have hpn : ep.s.pe.pl.n ≤ 900000 := (hL _ _ hp).1.2.2.2.2
          rw [HV.out]
          clear hq h hE HS HNO hN hL hp h0' ha HV hV hne
          go_enter Tryd.func10, Tryd.ntmps10
          go_wp2_with fail
          refine HF.out.mono ?_
          rintro e' w1 ⟨rfl, q1, rfl⟩
          rw [ptv_some, erv0]
          go_wp2_with fail
          refine (HF2.out q1).mono ?_
          rintro e' w1 ⟨rfl, q2, rfl⟩
          rw [ptv_some, erv0]
          go_wp2_with fail
          refine (HW.out q2).mono ?_
          rintro e' w1 ⟨rfl, q3, rfl⟩
          obtain ⟨W1, L1, hW1, hP1, hg1, hbl1, hfin⟩ := HS2.out q3
          have HW1 := hid hW1
          have HP1 := hid hP1
          have HG1 := hid hg1
          have HFIN := hid hfin
          have HE1 := hid (HE.out.kb hbl1 hB)
          clear hW1 hP1 hg1 hbl1 hfin HS2 HF HF2 HW
          go_upto_region 12 with fail
          rw [← HW1.out]
          clear c1 c2 f1 HW1 hlt
          go_wp2_with fail
          refine (flatest_any HP1.out HG1.out).mono ?_
          rintro e' w2 ⟨rfl, rfl⟩
          rw [Sl.v]
          have hrz := rz_of_rdm (latS_ok (HP1.out.rows _ _ HG1.out).ok)
          rw [un1_lat] at hrz
          have HT := hid (otop_any _ _ _ _ id w2 _ HE1.out.pl hrz (by omega))
          clear hrz
          go_wp2_with fail
          refine HT.out.mono ?_
          rintro e' w3 ⟨v3, rfl, ho3⟩
          obtain ⟨l3, rfl, hl1, hl2, hl3⟩ := sl_of_owz ho3
          have HR := hid (freorder_any HP1.out HG1.out ho3.bel l3 hl2 (fun y hy _ => hl3 y hy))
          have HL3 := hid hl1
          clear ho3 hl1 hl2 hl3 HT
          go_wp2_with fail
          refine HR.out.mono ?_
          rintro e' w4 ⟨rfl, hr4⟩
          have hg4 : gt (st L1 y ⟨ep.g, { ep.s with pe := { ep.s.pe with ord := true, od := l3 } }⟩) y = some ⟨ep.g, { ep.s with pe := { ep.s.pe with ord := true, od := l3 } }⟩ := by
            rw [gt_st, if_pos rfl, HG1.out]
            rfl
          have d1 : w4.cell? ⟨ep.g, 9, none⟩ = some (.slice ep.s.pe.pl.a ep.s.pe.pl.n ep.s.pe.pl.c) := hr4.pf.cell hg4
          have hl4 := (hr4.pf.wlt hg4 (mem_wb.2 (.inl rfl))).2
          have HPT := hid (sput_any _ _ _ _ id 0 0 w4 (hr4.pf.rows _ _ hg4).ok.pe.pl hpn)
          have HF4 := hid (HFIN.out w4 l3 HL3.out _ hr4 rfl)
          clear hr4 hg4 HFIN HR HL3
          go_wp2_with fail
          refine HPT.out.mono ?_
          rintro e' w5 ⟨v5, rfl, ho5⟩
          obtain ⟨k5, rfl, d2, d3, d4, d5⟩ := HF4.out w5 v5 ho5
          have HX := hid d5
          clear d5 ho5 HPT HF4 d1
          go_wp2
          go_ret
          exact ⟨rfl, HX.out⟩
        · rw [ha] at hV HW
          have HV : Hid (subE (pab L) id y = 11) := hV
          have HX := hid (HNO.out 11 HV.out (by decide))
          have c5 := hE.plc
          have l5 := World.block_lt_of_cell? _ _ c5
          rw [HV.out]
          clear hq h hE HS HNO hN hL hp h0' ha HV hV
          go_enter Tryd.func10, Tryd.ntmps10
          go_wp2_with fail
          refine HF.out.mono ?_
          rintro e' w1 ⟨rfl, q1, rfl⟩
          rw [ptv_some, erv0]
          go_wp2_with fail
          refine (HF2.out q1).mono ?_
          rintro e' w1 ⟨rfl, q2, rfl⟩
          rw [ptv_some, erv0]
          go_wp2_with fail
          refine (HW.out q2).mono ?_
          rintro e' w1 ⟨rfl, q3, rfl⟩
          go_wp2
          go_ret
          exact ⟨rfl, _, HX.out q3⟩
      · have h0' : e.s.par ≠ 0 := by simpa using h0
        have HV : Hid (subE (pab L) id y = 10) := by rw [Hid, hV, if_pos h0']
        have HX := hid (HNO.out 10 HV.out (by decide))
        have c5 := hE.rol
        have l5 := World.block_lt_of_cell? _ _ c5
        rw [HV.out]
        clear hq h hE HS HNO hN hL hp h0' HV hV
        go_enter Tryd.func10, Tryd.ntmps10
        go_wp2_with fail
        refine HF.out.mono ?_
        rintro e' w1 ⟨rfl, q1, rfl⟩
        rw [ptv_some, erv0]
        go_wp2_with fail
        refine (HF2.out q1).mono ?_
        rintro e' w1 ⟨rfl, q2, rfl⟩
        rw [ptv_some, erv0]
        go_wp2
        go_ret
        exact ⟨rfl, _, HX.out q2⟩
end Go.Proofs.YtdgknofpkafppaaDoor

/- The program's slices.DeleteFunc on children, where they lie. -/
namespace Go.Proofs.YtdgknofpkafppaaDoor
open Go Go.RowKit

/-- DeleteFunc's state. -/
structure Dm {α : Type} (p : α → Bool) (l L : List α) (i j : Nat) : Prop where
  len : L.length = l.length
  ij : i < j
  fst : L.take i = (l.take j).filter fun r => !p r
  snd : L.drop j = l.drop j
section
variable {α : Type} {p : α → Bool} {l L : List α} {i j : Nat}
theorem Dm.skip (h : Dm p l L i j) {r : α} (hr : l[j]? = some r) (he : p r = true) : Dm p l L i (j + 1) := by
  refine ⟨h.len, by have := h.ij; omega, ?_, ?_⟩
  · rw [h.fst, List.take_add_one, hr, List.filter_append]
    simp [he]
  · have := congrArg List.tail h.snd
    simpa using this
theorem Dm.keep (h : Dm p l L i j) {r : α} (hr : l[j]? = some r) (he : p r = false) : Dm p l (L.set i r) (i + 1) (j + 1) := by
  have hij := h.ij
  have hj : j < l.length := (List.getElem?_eq_some_iff.1 hr).1
  have hl := h.len
  refine ⟨by rw [List.length_set]; exact hl, by omega, ?_, ?_⟩
  · have e : (L.set i r).take (i + 1) = L.take i ++ [r] := by
      rw [List.take_add_one, List.take_set_of_le (Nat.le_refl _), List.getElem?_set_self (by omega)]
      rfl
    rw [e, h.fst, List.take_add_one, hr, List.filter_append]
    simp [he]
  · rw [List.drop_set_of_lt (by omega)]
    have := congrArg List.tail h.snd
    simpa using this
end
theorem Dm.start {k : Int} {l : List (List Int)} {i : Nat} (h : ixf k l = some i) : Dm (fun y => hd y == k) l l i (i + 1) ∧ i < l.length := by
  have hw : ∀ (l : List (List Int)) (i : Nat), ixf k l = some i → ∃ y, l[i]? = some y ∧ hd y = k ∧ ∀ (j : Nat) z, j < i → l[j]? = some z → hd z ≠ k := by
    intro l
    induction l with
    | nil => intro i h; cases h
    | cons x l ih =>
      intro i h
      rw [ixf] at h
      split at h
      · rename_i hx
        cases h
        exact ⟨x, rfl, hx, fun j z hj => absurd hj (by omega)⟩
      · rename_i hx
        obtain ⟨m, hm, rfl⟩ := Option.map_eq_some_iff.1 h
        obtain ⟨y, h1, h2, h3⟩ := ih m hm
        refine ⟨y, by simpa using h1, h2, fun j z hj hz => ?_⟩
        cases j with
        | zero => simp at hz; subst hz; exact hx
        | succ j => exact h3 j z (by omega) (by simpa using hz)
  obtain ⟨y, h1, h2, h3⟩ := hw l i h
  refine ⟨⟨rfl, by omega, ?_, rfl⟩, (List.getElem?_eq_some_iff.1 h1).1⟩
  rw [List.take_add_one, h1, List.filter_append]
  have : (l.take i).filter (fun y => !(hd y == k)) = l.take i := List.filter_eq_self.2 fun x hx => by
    obtain ⟨j, hj⟩ := List.mem_iff_getElem?.1 hx
    have hji : j < i := by
      have := (List.getElem?_eq_some_iff.1 hj).1
      rw [List.length_take] at this
      omega
    rw [List.getElem?_take_of_lt hji] at hj
    simpa using h3 j x hji hj
  rw [this]
  simp [h2]
theorem outL_eq (k : Int) (l : List (List Int)) : outL k l = l.filter fun y => !(hd y == k) := rfl
theorem outL_none {k : Int} {l : List (List Int)} (h : ixf k l = none) : outL k l = l := List.filter_eq_self.2 fun y hy => by simpa using (ixf_none h).1 y hy

/-- A row of children that is written where it lies. -/
structure Rw (base : Nat) (u0 u : World) (g n c : Nat) (l : List (List Int)) : Prop where
  own : u.ownsRow base 46 3 (.slice (some ⟨g, 0, none⟩) n c) n (mcs l)
  kp : Kp [g] u0 u
  size : ∀ y ∈ l, y.length = 3
  len : l.length = n
variable {base : Nat} {u0 u u' : World} {g n c : Nat} {l : List (List Int)}
theorem Rw.on (h : Rw base u0 u g n c l) (hb : Below u.heap.size u u') : Rw base u0 u' g n c l := ⟨ownsRow_below h.own hb, h.kp.trans (kp_of_below hb [g]) (fun _ hk _ => hk), h.size, h.len⟩
theorem mcs_st3 {l : List (List Int)} (hs : ∀ y ∈ l, y.length = 3) {j : Nat} (hj : j < l.length) (z0 z1 z2 : Int) : mcs (l.set j [z0, z1, z2]) = (((mcs l).set (j * 3) (.int .i64 z0)).set (j * 3 + 1) (.int .i64 z1)).set (j * 3 + 2) (.int .i64 z2) := by
  induction l generalizing j with
  | nil => simp at hj
  | cons x l ih =>
    match x, hs x List.mem_cons_self with
    | [a, b, d], _ =>
      cases j with
      | zero => simp [mcs_cons]
      | succ j =>
        rw [List.set_cons_succ, mcs_cons, mcs_cons, ih (fun y hy => hs y (List.mem_cons_of_mem _ hy)) (by simpa using hj), show (j + 1) * 3 = j * 3 + 3 by omega]
        simp only [show j * 3 + 3 + 1 = j * 3 + 1 + 3 by omega, show j * 3 + 3 + 2 = j * 3 + 2 + 3 by omega, List.map_cons, List.map_nil, List.cons_append, List.nil_append, List.set_cons_succ]
/-- A child written at a place of a block. -/
def sto3b (u : World) (g o : Nat) (z0 z1 z2 : Int) : World := ((u.setCell ⟨g, o, none⟩ (.int .i64 z0)).setCell ⟨g, o + 1, none⟩ (.int .i64 z1)).setCell ⟨g, o + 2, none⟩ (.int .i64 z2)
theorem Rw.sto (h : Rw base u0 u g n c l) {j : Nat} (hj : j < n) (z0 z1 z2 : Int) : Rw base u0 (sto3b u g (j * 3) z0 z1 z2) g n c (l.set j [z0, z1, z2]) := by
  have h2 := (h.own.stored (j * 3) (.int .i64 z0)).1
  have h3 := (h2.stored (j * 3 + 1) (.int .i64 z1)).1
  have h4 := (h3.stored (j * 3 + 2) (.int .i64 z2)).1
  refine ⟨?_, ((h.kp.s1 _ _).s1 _ _).s1 _ _, fun y hy => ?_, by rw [List.length_set]; exact h.len⟩
  · rw [mcs_st3 h.size (by rw [h.len]; exact hj)]
    exact h4
  · rcases List.mem_or_eq_of_mem_set hy with hy | rfl
    · exact h.size y hy
    · rfl
theorem Rw.fz (h : Rw base u0 u g n c l) (k : Nat) : u.frozen? ⟨g, k, none⟩ = false := h.own.frozenAt k
theorem Rw.el (h : Rw base u0 u g n c l) {j : Nat} {z0 z1 z2 : Int} (hj : l[j]? = some [z0, z1, z2]) : u.cell? ⟨g, j * 3, none⟩ = some (.int .i64 z0) ∧ u.cell? ⟨g, j * 3 + 1, none⟩ = some (.int .i64 z1) ∧ u.cell? ⟨g, j * 3 + 2, none⟩ = some (.int .i64 z2) := by
  have hl : j < n := by rw [← h.len]; exact (List.getElem?_eq_some_iff.1 hj).1
  refine ⟨?_, ?_, ?_⟩
  · have := h.own.cellAt (j * 3) (by omega)
    rw [this]
    exact mcs_at (i := 0) h.size hj rfl
  · rw [h.own.cellAt _ (by omega)]
    exact mcs_at (i := 1) h.size hj rfl
  · rw [h.own.cellAt _ (by omega)]
    exact mcs_at (i := 2) h.size hj rfl
theorem Rw.lt (h : Rw base u0 u g n c l) : g < u.heap.size := (h.own.lt g rfl).2
theorem Rw.at3 (h : Rw base u0 u g n c l) {j : Nat} (hj : j < n) : ∃ z0 z1 z2, l[j]? = some [z0, z1, z2] := by
  obtain ⟨y, hy⟩ : ∃ y, l[j]? = some y := ⟨_, List.getElem?_eq_getElem (by rw [h.len]; exact hj)⟩
  match y, h.size y (List.mem_of_getElem? hy) with
  | [a, b, d], _ => exact ⟨a, b, d, hy⟩
/-- 'clear' of what is behind the first i. -/
theorem Rw.clear (h : Rw base u0 u g n c l) {i : Nat} (hi : i < n) :
    ∃ u', (∀ (ty : TypeId) (c' : Nat), (Builtin.clear_ #[33] ty #[.slice (some ⟨g, i * 3, none⟩) (n - i) c']).run Tryd.prog u = .ok (.tuple #[]) u') ∧ Rw base u0 u' g i c (l.take i) := by
  have hv : ∀ w', (zeroValue 46).run Tryd.prog w' = .ok (.agg #[.int .i64 0, .int .i64 0, .int .i64 0]) w' := Tryd.zeroValue46
  have own := h.own
  have hn := h.len
  rcases own.2 with ⟨e0, _⟩ | ⟨g', cap, cur, e0, hb, hg, hnc, hm, hcs, ht⟩
  · cases e0
  · cases e0
    obtain ⟨Z, hZ⟩ : ∃ Z, Z = (Builtin.zeroCells (Value.agg #[.int .i64 0, .int .i64 0, .int .i64 0]).cells (n - i)).toList := ⟨_, rfl⟩
    have hZl : Z.length = (n - i) * 3 := by rw [hZ]; simp [size_zeroCells, Value.cells]
    have hZ1 : ∀ v ∈ Z, v.oneCell' = true := fun v hv => by
      rw [hZ] at hv
      simp only [Builtin.zeroCells, Value.cells, List.size_toArray, List.length_cons, List.length_nil, Array.toList_map, List.mem_map] at hv
      obtain ⟨k, _, rfl⟩ := hv
      obtain h | h | h : k % (0 + 1 + 1 + 1) = 0 ∨ k % (0 + 1 + 1 + 1) = 1 ∨ k % (0 + 1 + 1 + 1) = 2 := by omega
      all_goals
        rw [h]
        rfl
    have hst := run_storeCells_at Tryd.prog g (i * 3) 46 Z 0 cur u hg (by rw [hZl, hcs]; omega) hZ1
    have hsz : ∀ y ∈ l.take i, y.length = 3 := fun y hy => h.size y (List.mem_of_mem_take hy)
    have hlt : (mcs (l.take i)).length = i * 3 := by rw [mcs_length hsz, List.length_take]; omega
    have hpre : cur.toList.take (i * 3) = mcs (l.take i) := by
      have := congrArg (List.take (i * 3)) ht
      rw [List.take_take, Nat.min_eq_left (by omega)] at this
      rw [this]
      have e : mcs l = mcs (l.take i) ++ mcs (l.drop i) := by rw [← mcs_append, List.take_append_drop]
      rw [e, ← hlt, List.take_left]
    obtain ⟨new, hnew⟩ : ∃ new, new = cur.toList.take (i * 3 + 0) ++ Z ++ cur.toList.drop (i * 3 + 0 + Z.length) := ⟨_, rfl⟩
    have hnl : new.length = cur.size := by rw [hnew]; simp [hZl, hcs]; omega
    have hnt : new.take (i * 3) = mcs (l.take i) := by rw [hnew, Nat.add_zero, List.append_assoc, hpre, ← hlt, List.take_left]
    refine ⟨u.setRow g new.toArray, ?_, ⟨⟨hlt, .inr ⟨g, c, new.toArray, rfl, hb, setRow_heap u g cur _ _ _ hg, by omega, hm, by simpa [hnl] using hcs, by simpa using hnt⟩⟩, ?_, hsz, by rw [List.length_take]; omega⟩⟩
    · intro ty c'
      obtain ⟨m, hm2⟩ : ∃ m, n - i = m + 1 := ⟨n - i - 1, by omega⟩
      rw [hm2] at hZ ⊢
      rw [hnew]
      simp only [Nat.add_zero] at hst ⊢
      simp [Builtin.clear_, run_underlying Tryd.underlying33, hv, ← hZ, hst]
    · refine h.kp.trans (Y := [g]) ?_ (fun k hk _ => hk)
      have hB := below_setRow (Below.refl g u) (Nat.le_refl g) new.toArray
      refine ⟨hB.os, hB.tape, hB.output, hB.size, fun k _ hk => ?_⟩
      simp only [List.mem_cons, List.not_mem_nil, or_false] at hk
      simp only [World.setRow]
      rw [Array.getElem?_modify, if_neg (fun e => hk e.symm)]

set_option maxRecDepth 100000 in
theorem fgt1_any (k : Int) (q : Nat) (z0 z1 z2 : Int) (u : World) (hc : u.cell? ⟨q, 0, none⟩ = some (.int .i64 k)) :
    Calls Tryd.prog 89 (#[.agg #[.int .i64 z0, .int .i64 z1, .int .i64 z2]] ++ #[.pointer (some ⟨q, 0, none⟩)]) u fun e w' => e = .returned (.bool (z0 == k)) ∧ Below u.heap.size u w' := by
  have hb := bel_new u (.cells #[.int .i64 z0, .int .i64 z1, .int .i64 z2] 46)
  have hlt := World.block_lt_of_cell? u _ hc
  have hc2 : (u.alloc (.cells #[.int .i64 z0, .int .i64 z1, .int .i64 z2] 46)).cell? ⟨q, 0, none⟩ = some (.int .i64 k) := by rw [hb.cell (World.block_lt_of_cell? u _ hc)]; exact hc
  have HB := hid hb
  clear hb
  go_enter Tryd.func89, Tryd.ntmps89
  go_wp2
  go_ret
  exact ⟨rfl, HB.out⟩

set_option maxRecDepth 100000 in
set_option maxHeartbeats 1000000 in
theorem cdelete_any (x : Sl) (k : Int) (q : Nat) (u : World) (hO : u.ownsRow base 46 3 x.v x.n (mcs x.l)) (hr : RdM 3 u x.a x.n x.c x.l) (hq : u.cell? ⟨q, 0, none⟩ = some (.int .i64 k)) (hqx : q ∉ x.bl) :
    Calls Tryd.prog 88 #[.slice x.a x.n x.c, .func (.func 89) #[] #[.pointer (some ⟨q, 0, none⟩)]] u fun e w' => ∃ y : Sl, e = .returned (.slice y.a y.n y.c) ∧ y.l = outL k x.l ∧ RdM 3 w' y.a y.n y.c y.l ∧ w'.ownsRow base 46 3 y.v y.n (mcs y.l) ∧ (∀ b ∈ y.bl, b ∈ x.bl) ∧ Kp x.bl u w' := by
  have hlq := World.block_lt_of_cell? _ _ hq
  have eg := enters_of Tryd.func89 (by kernel_rfl) rfl
  have CI := hid (cindexg_any x.a x.n x.c x.l k 89 #[.pointer (some ⟨q, 0, none⟩)] u hr eg (fun z0 z1 z2 v hv => fgt1_any k q z0 z1 z2 v (by rw [hv.cell hlq]; exact hq)))
  cases hx : ixf k x.l with
  | none =>
    have hi : ixI k x.l = -1 := by rw [ixI, hx]
    rw [hi] at CI
    have HX : Hid (∀ w', Below u.heap.size u w' → ∃ y : Sl, Ending.returned (.slice x.a x.n x.c) = .returned (.slice y.a y.n y.c) ∧ y.l = outL k x.l ∧ RdM 3 w' y.a y.n y.c y.l ∧ w'.ownsRow base 46 3 y.v y.n (mcs y.l) ∧ (∀ b ∈ y.bl, b ∈ x.bl) ∧ Kp x.bl u w') := fun w' hb => ⟨x, rfl, (outL_none hx).symm, hr.on hb, ownsRow_below hO hb, fun b h => h, kp_of_below hb _⟩
    clear hx hi hO hr hq
    go_enter Tryd.func88, Tryd.ntmps88
    go_wp2_with fail
    refine CI.out.mono ?_
    rintro e w1 ⟨rfl, hb1⟩
    have HX1 := hid (HX.out w1 hb1)
    clear hb1
    go_wp2
    go_ret
    exact HX1.out
  | some i0 =>
    obtain ⟨hD0, hi0⟩ := Dm.start hx
    have hi : ixI k x.l = i0 := by rw [ixI, hx]
    rw [hi] at CI
    have hlen := hr.len
    have hs := hr.small
    have hle := hr.le
    obtain ⟨g, hg⟩ : ∃ g, x.a = some ⟨g, 0, none⟩ := by
      rcases hO.2 with ⟨h1, h2⟩ | ⟨g, cap, cur, h1, _⟩
      · rw [h2] at hlen
        omega
      · rw [Sl.v] at h1
        cases hxa : x.a with
        | none => rw [hxa] at h1; cases h1
        | some a => rw [hxa] at h1; cases h1; exact ⟨g, rfl⟩
    have hbl : x.bl = [g] := by rw [Sl.bl, Sl.v, hg]; rfl
    have hO' := hO
    rw [Sl.v, hg] at hO'
    have HR0 : Hid (Rw base u u g x.n x.c x.l) := ⟨hO', Kp.refl _ _, hr.size, hlen⟩
    have hqg : q ≠ g := fun e => hqx (by rw [hbl, e]; simp)
    have HQ : Hid (∀ W L, Rw base u W g x.n x.c L → W.cell? ⟨q, 0, none⟩ = some (.int .i64 k) ∧ q < W.heap.size) := fun W L hW => by
      have h1 : W.cell? ⟨q, 0, none⟩ = some (.int .i64 k) := hW.kp.cell hq (by simpa using hqg)
      exact ⟨h1, World.block_lt_of_cell? _ _ h1⟩
    have HFIN : Hid (∀ W' i, Rw base u W' g i x.c (outL k x.l) → ∃ y : Sl, Ending.returned (.slice (some ⟨g, 0, none⟩) i x.c) = .returned (.slice y.a y.n y.c) ∧ y.l = outL k x.l ∧ RdM 3 W' y.a y.n y.c y.l ∧ W'.ownsRow base 46 3 y.v y.n (mcs y.l) ∧ (∀ b ∈ y.bl, b ∈ x.bl) ∧ Kp x.bl u W') := fun W' i hW => by
      obtain ⟨y, hy, hn, hl, hrd, hown⟩ := own_sl hW.own hW.len hW.size
      refine ⟨y, by rw [hy, Sl.v], hl, hrd, hown, fun b hb => ?_, by rw [hbl]; exact hW.kp⟩
      rw [Sl.bl, ← hy] at hb
      rw [hbl]
      exact hb
    have HD := hid hD0
    have HL := hid hlen
    have hin : i0 < x.n := by omega
    rw [hg] at CI ⊢
    clear hx hi hO hO' hr hq hD0 hlen hqx
    go_enter Tryd.func88, Tryd.ntmps88
    go_wp2_with fail
    refine CI.out.mono ?_
    rintro e w1 ⟨rfl, hb1⟩
    have HR1 := hid (HR0.out.on hb1)
    have hq1 : ((i0 : Int) == -1) = false := by simp
    clear hb1 HR0 CI
    go_wp2
    go_loopw [5, 6] (fun a b wr => ∃ (i j : Nat) (L : List (List Int)), a = .int .i64 i ∧ b = .int .i64 j ∧ j ≤ x.n ∧ Dm (fun y => hd y == k) x.l L i j ∧ Rw base u wr g x.n x.c L) (fun _ b _ => x.n - (numOf b).toNat)
    case atStart => exact ⟨i0, i0 + 1, x.l, rfl, rfl, by omega, HD.out, HR1.out⟩
    case round =>
      obtain ⟨i, j, L, rfl, rfl, hj, hD, hR⟩ := hrel
      have HD2 := hid hD
      have HR2 := hid hR
      have hij := hD.ij
      have HLL : Hid (L.length = x.n) := hR.len
      clear hD hR HD HR1
      by_cases hgo : j < x.n
      · have e1 : decide ((j : Int) < x.n) = true := decide_eq_true (by omega)
        have g1 := HR2.out.lt
        obtain ⟨z0, z1, z2, hLr⟩ := HR2.out.at3 hgo
        obtain ⟨s0, s1, s2, hLs⟩ := HR2.out.at3 (show i < x.n by omega)
        have hr : x.l[j]? = some [z0, z1, z2] := by
          have := congrArg (fun l : List (List Int) => l[0]?) HD2.out.snd
          simp only [List.getElem?_drop, Nat.add_zero] at this
          rw [← this, hLr]
        obtain ⟨c0, c1, c2⟩ := HR2.out.el hLr
        have e2 : (j : Int) < x.n := by omega
        have e3 : (i : Int) < x.n := by omega
        have hb0 := bel_new wr (.cells #[.int .i64 z0, .int .i64 z1, .int .i64 z2] 46)
        have HBX := hid (bk_new wr #[.int .i64 z0, .int .i64 z1, .int .i64 z2] 46)
        have HR3 := hid (HR2.out.on hb0)
        have CE := hid (fgt1_any k q z0 z1 z2 _ (HQ.out _ _ HR3.out).1)
        clear hb0
        cases he : (z0 == k)
        · rw [he] at CE
          have HD3 := hid (HD2.out.keep hr (by rw [hd3]; exact he))
          clear hLr hr
          go_wp2_with fail
          refine CE.out.mono ?_
          rintro e w3 ⟨rfl, hb3⟩
          have hR4 := HR3.out.on hb3
          obtain ⟨d0, d1, d2⟩ := hR4.el hLs
          have hB3 := HBX.out.on hb3
          have t0 := hB3.cell 0
          have t1 := hB3.cell 1
          have t2 := hB3.cell 2
          have t3 := hB3.lt
          have g4 := hR4.lt
          have fz := hR4.fz
          have HR5 := hid (hR4.sto (show i < x.n by omega) z0 z1 z2)
          clear hR4 hb3 HR3 HBX CE hB3
          simp only [List.getElem?_toArray, List.getElem?_cons_zero, List.getElem?_cons_succ] at t0 t1 t2
          go_wp2
          go_roundw
          case rel => exact ⟨i + 1, j + 1, L.set i [z0, z1, z2], by go_num, by go_num, by omega, HD3.out, HR5.out⟩
          case measure => simp [numOf]; omega
        · rw [he] at CE
          have HD3 := hid (HD2.out.skip hr (by rw [hd3]; exact he))
          clear hLr hr
          go_wp2_with fail
          refine CE.out.mono ?_
          rintro e w3 ⟨rfl, hb3⟩
          have HR4 := hid (HR3.out.on hb3)
          clear hb3 HR3 HBX CE
          go_wp2
          go_roundw
          case rel => exact ⟨i, j + 1, L, rfl, by go_num, by omega, HD3.out, HR4.out⟩
          case measure => simp [numOf]; omega
      · have e1 : decide ((j : Int) < x.n) = false := decide_eq_false (by omega)
        obtain rfl : j = x.n := by omega
        obtain ⟨u', hcl, hR'⟩ := HR2.out.clear hij
        have HF : Hid (L.take i = outL k x.l) := by rw [Hid, HD2.out.fst, List.take_of_length_le (by rw [HL.out]; exact Nat.le_refl _), outL_eq]
        rw [HF.out] at hR'
        have HX := hid (HFIN.out _ _ hR')
        have hci : ¬ x.c = i := by omega
        clear hR' HF
        go_wp2
        go_ret
        exact HX.out
end Go.Proofs.YtdgknofpkafppaaDoor

/- The program's forest: forget, leave. Written by forest/mk_pfl.py. -/
namespace Go.Proofs.YtdgknofpkafppaaDoor
open Go Go.RowKit

/-- A surface's three states by number. -/
def stx : Nat → Sr → Sx
  | 0, s => s.pe
  | 1, s => s.ca
  | _, s => s.no
def sux : Nat → Sx → Sr → Sr
  | 0, x, s => { s with pe := x }
  | 1, x, s => { s with ca := x }
  | _, x, s => { s with no := x }
theorem stx_sux {j : Nat} (x : Sx) (s : Sr) : stx j (sux j x s) = x := by
  match j with
  | 0 => rfl
  | 1 => rfl
  | j + 2 => rfl
theorem stx_sux_ne {i j : Nat} (hi : i < 3) (hj : j < 3) (hne : i ≠ j) (x : Sx) (s : Sr) : stx i (sux j x s) = stx i s := by
  match i, j with
  | 0, 0 => omega
  | 0, 1 => rfl
  | 0, 2 => rfl
  | 1, 0 => rfl
  | 1, 1 => omega
  | 1, 2 => rfl
  | 2, 0 => rfl
  | 2, 1 => rfl
  | 2, 2 => omega
theorem sux_par {j : Nat} (x : Sx) (s : Sr) : (sux j x s).par = s.par ∧ (sux j x s).syn = s.syn := by
  match j with
  | 0 => exact ⟨rfl, rfl⟩
  | 1 => exact ⟨rfl, rfl⟩
  | j + 2 => exact ⟨rfl, rfl⟩
theorem sxc_od (x : Sx) : (sxc x)[8]? = some (.slice x.od.a x.od.n x.od.c) := rfl
theorem sxc_pl (x : Sx) : (sxc x)[9]? = some (.slice x.pl.a x.pl.n x.pl.c) := rfl
theorem pcs_stx {j : Nat} (hj : j < 3) {k : Nat} (hk : k < 10) (s : Sr) : (pcs s)[j * 10 + k]? = (sxc (stx j s))[k]? := by
  match j with
  | 0 =>
    rw [pcs, Nat.zero_mul, Nat.zero_add, List.getElem?_append_left (by simpa [sxc] using hk)]
    rfl
  | 1 =>
    rw [pcs, List.getElem?_append_right (by simp [sxc]), List.getElem?_append_left (by simp [sxc]; omega)]
    simp [sxc, stx]
  | 2 =>
    rw [pcs, List.getElem?_append_right (by simp [sxc]; omega), List.getElem?_append_right (by simp [sxc]; omega), List.getElem?_append_left (by simp [sxc]; omega)]
    simp only [sxc, List.length_cons, List.length_nil, stx]
    congr 1
    omega

variable {base : Nat} {w0 w w' : World} {p m : Nat} {L L' : Po} {F : Fo} {id : Int} {es : List Addr} {e : Ps}
theorem st_st {α : Type} (l : List (Int × α)) (k : Int) (a b : α) : st (st l k a) k b = st l k b := by
  simp only [st, List.map_map]
  refine List.map_congr_left fun e _ => ?_
  simp only [Function.comp]
  split
  · simp
  · rfl
theorem st_self {α : Type} {l : List (Int × α)} (hn : (keys l).Nodup) {k : Int} {a : α} (h : gt l k = some a) : st l k a = l := by
  rw [st]
  conv => rhs; rw [← List.map_id l]
  refine List.map_congr_left fun x hx => ?_
  split
  · rename_i hk
    have := gt_of_mem hn hx
    rw [hk, h] at this
    cases this
    rw [← hk]
    rfl
  · rfl
theorem Pf.stOk (h : Pf base w p m L) (he : gt L id = some e) (j : Nat) : (stx j e.s).Ok w ∧ w.ownsRow base 46 3 (stx j e.s).pl.v (stx j e.s).pl.n (mcs (stx j e.s).pl.l) := by
  have ho := h.rows id e he
  match j with
  | 0 => exact ⟨ho.ok.pe, ho.pp⟩
  | 1 => exact ⟨ho.ok.ca, ho.cp⟩
  | j + 2 => exact ⟨ho.ok.no, ho.np⟩
/-- A new order in one of the three. -/
theorem Pf.fgOd (h : Pf base w0 p m L) (he : gt L id = some e) {j : Nat} (hj : j < 3) (hb : Below w0.heap.size w0 w) (l : Sl) (hl : RdM 1 w l.a l.n l.c l.l) (hn : ∀ y, l.a = some y → 0 < l.n → w0.heap.size ≤ y.block) :
    PfR base w0 p m L (pab (st L id ⟨e.g, sux j { stx j e.s with od := l } e.s⟩)) (w.setCell ⟨e.g, j * 10 + 8, none⟩ l.v) (st L id ⟨e.g, sux j { stx j e.s with od := l } e.s⟩) := by
  have ho := ((h.on hb).rows id e he)
  have hB := (h.on hb).bk he
  have hf : ∀ (X : List Nat), X = [] → ∀ z : Sl, Rold w0.heap.size X z l := fun X hX z => .inr fun y hy h0 => ⟨hn y hy h0, by simp [hX]⟩
  match j, hj with
  | 0, _ => exact h.put he (kp_of_below hb []) (by simp) (kp1 _ _ _ _) (hB.set 8 l.v) ⟨⟨⟨ho.ok.pe.dm, ho.ok.pe.fr, ho.ok.pe.rg, hl, ho.ok.pe.pl⟩, ho.ok.ca, ho.ok.no⟩, ho.dm, ho.fr, ho.pp, ho.cp, ho.np⟩ (k := 5) ⟨.same, .same, .same, .same, .same, .same, hf _ rfl _, .same, .same, .same, .same, .same, .same, .same, .same⟩
  | 1, _ => exact h.put he (kp_of_below hb []) (by simp) (kp1 _ _ _ _) (hB.set 18 l.v) ⟨⟨ho.ok.pe, ⟨ho.ok.ca.dm, ho.ok.ca.fr, ho.ok.ca.rg, hl, ho.ok.ca.pl⟩, ho.ok.no⟩, ho.dm, ho.fr, ho.pp, ho.cp, ho.np⟩ (k := 5) ⟨.same, .same, .same, .same, .same, .same, .same, .same, .same, .same, hf _ rfl _, .same, .same, .same, .same⟩
  | 2, _ => exact h.put he (kp_of_below hb []) (by simp) (kp1 _ _ _ _) (hB.set 28 l.v) ⟨⟨ho.ok.pe, ho.ok.ca, ⟨ho.ok.no.dm, ho.ok.no.fr, ho.ok.no.rg, hl, ho.ok.no.pl⟩⟩, ho.dm, ho.fr, ho.pp, ho.cp, ho.np⟩ (k := 5) ⟨.same, .same, .same, .same, .same, .same, .same, .same, .same, .same, .same, .same, .same, .same, hf _ rfl _⟩
/-- Places turned where they lie, in one of the three. -/
theorem Pf.fgPl (h : Pf base w0 p m L) (he : gt L id = some e) {j : Nat} (hj : j < 3) (hk0 : Kp (stx j e.s).pl.bl w0 w) (y : Sl) (hy : RdM 3 w y.a y.n y.c y.l) (ho' : w.ownsRow base 46 3 y.v y.n (mcs y.l)) (hn : ∀ b ∈ y.bl, b ∈ (stx j e.s).pl.bl) :
    PfR base w0 p m L (pab (st L id ⟨e.g, sux j { stx j e.s with pl := y } e.s⟩)) (w.setCell ⟨e.g, j * 10 + 9, none⟩ y.v) (st L id ⟨e.g, sux j { stx j e.s with pl := y } e.s⟩) := by
  obtain ⟨hsep, hfar⟩ := h.sep id e he
  have ho := h.rows id e he
  obtain ⟨i, hi⟩ : ∃ i : Nat, i = j + 2 := ⟨_, rfl⟩
  have hij : (wos e.s)[i]? = some (stx j e.s).pl := by
    match j, hj with
    | 0, _ => rw [hi]; rfl
    | 1, _ => rw [hi]; rfl
    | 2, _ => rw [hi]; rfl
  have hm : ∀ b ∈ (stx j e.s).pl.bl, b ∈ wb e := fun b hb => mem_wb.2 (.inr ⟨_, List.mem_of_getElem? hij, hb⟩)
  have hge : e.g ∉ (stx j e.s).pl.bl := hsep.g _ (List.mem_of_getElem? hij)
  have hB : Bk w e.g 58 (pcs e.s).toArray := (h.bk he).kp hk0 hge
  have hw : ∀ (i' : Nat) x, (wos e.s)[i']? = some x → i' ≠ i → ∀ b ∈ x.bl, b ∉ (stx j e.s).pl.bl := fun i' x hx h0 b hb hm => h0 (hsep.two i' i x _ b hx hij hb hm)
  have hr : ∀ z ∈ ros e.s, ∀ b ∈ (stx j e.s).pl.bl, z.Frb b := fun z hz b hb => (hfar b (hm b hb)).2.2.2 z hz
  have R : ∀ {m'} (z : Sl), z ∈ ros e.s → RdM m' w0 z.a z.n z.c z.l → RdM m' w z.a z.n z.c z.l := fun z hz h1 => rd_far h1 hk0 (hr z hz)
  have D := fun (h' : 0 ≠ i) => rd_farw ho.ok.pe.dm hk0 (hw 0 _ rfl h')
  have Fr := fun (h' : 1 ≠ i) => rd_farw ho.ok.pe.fr hk0 (hw 1 _ rfl h')
  have P2 := fun (h' : 2 ≠ i) => rd_farw ho.ok.pe.pl hk0 (hw 2 _ rfl h')
  have P3 := fun (h' : 3 ≠ i) => rd_farw ho.ok.ca.pl hk0 (hw 3 _ rfl h')
  have P4 := fun (h' : 4 ≠ i) => rd_farw ho.ok.no.pl hk0 (hw 4 _ rfl h')
  have oD := fun (h' : 0 ≠ i) => own_far ho.dm hk0 (hw 0 _ rfl h')
  have oF := fun (h' : 1 ≠ i) => own_far ho.fr hk0 (hw 1 _ rfl h')
  have o2 := fun (h' : 2 ≠ i) => own_far ho.pp hk0 (hw 2 _ rfl h')
  have o3 := fun (h' : 3 ≠ i) => own_far ho.cp hk0 (hw 3 _ rfl h')
  have o4 := fun (h' : 4 ≠ i) => own_far ho.np hk0 (hw 4 _ rfl h')
  have hold : ∀ k i', Old w0.heap.size k i' (stx j e.s).pl y := fun k i' b hb => .inl (hn b hb)
  match j, hj with
  | 0, _ => exact h.put he hk0 hm (kp1 _ _ _ _) (hB.set 9 y.v) ⟨⟨⟨D (by omega), Fr (by omega), R e.s.pe.rg (by simp [ros]) ho.ok.pe.rg, R e.s.pe.od (by simp [ros]) ho.ok.pe.od, hy⟩, ⟨R e.s.ca.dm (by simp [ros]) ho.ok.ca.dm, R e.s.ca.fr (by simp [ros]) ho.ok.ca.fr, R e.s.ca.rg (by simp [ros]) ho.ok.ca.rg, R e.s.ca.od (by simp [ros]) ho.ok.ca.od, P3 (by omega)⟩, ⟨R e.s.no.dm (by simp [ros]) ho.ok.no.dm, R e.s.no.fr (by simp [ros]) ho.ok.no.fr, R e.s.no.rg (by simp [ros]) ho.ok.no.rg, R e.s.no.od (by simp [ros]) ho.ok.no.od, P4 (by omega)⟩⟩, oD (by omega), oF (by omega), ho', o3 (by omega), o4 (by omega)⟩ (k := 5) ⟨.same, .same, hold _ _, .same, .same, .same, .same, .same, .same, .same, .same, .same, .same, .same, .same⟩
  | 1, _ => exact h.put he hk0 hm (kp1 _ _ _ _) (hB.set 19 y.v) ⟨⟨⟨D (by omega), Fr (by omega), R e.s.pe.rg (by simp [ros]) ho.ok.pe.rg, R e.s.pe.od (by simp [ros]) ho.ok.pe.od, P2 (by omega)⟩, ⟨R e.s.ca.dm (by simp [ros]) ho.ok.ca.dm, R e.s.ca.fr (by simp [ros]) ho.ok.ca.fr, R e.s.ca.rg (by simp [ros]) ho.ok.ca.rg, R e.s.ca.od (by simp [ros]) ho.ok.ca.od, hy⟩, ⟨R e.s.no.dm (by simp [ros]) ho.ok.no.dm, R e.s.no.fr (by simp [ros]) ho.ok.no.fr, R e.s.no.rg (by simp [ros]) ho.ok.no.rg, R e.s.no.od (by simp [ros]) ho.ok.no.od, P4 (by omega)⟩⟩, oD (by omega), oF (by omega), o2 (by omega), ho', o4 (by omega)⟩ (k := 5) ⟨.same, .same, .same, hold _ _, .same, .same, .same, .same, .same, .same, .same, .same, .same, .same, .same⟩
  | 2, _ => exact h.put he hk0 hm (kp1 _ _ _ _) (hB.set 29 y.v) ⟨⟨⟨D (by omega), Fr (by omega), R e.s.pe.rg (by simp [ros]) ho.ok.pe.rg, R e.s.pe.od (by simp [ros]) ho.ok.pe.od, P2 (by omega)⟩, ⟨R e.s.ca.dm (by simp [ros]) ho.ok.ca.dm, R e.s.ca.fr (by simp [ros]) ho.ok.ca.fr, R e.s.ca.rg (by simp [ros]) ho.ok.ca.rg, R e.s.ca.od (by simp [ros]) ho.ok.ca.od, P3 (by omega)⟩, ⟨R e.s.no.dm (by simp [ros]) ho.ok.no.dm, R e.s.no.fr (by simp [ros]) ho.ok.no.fr, R e.s.no.rg (by simp [ros]) ho.ok.no.rg, R e.s.no.od (by simp [ros]) ho.ok.no.od, hy⟩⟩, oD (by omega), oF (by omega), o2 (by omega), o3 (by omega), ho'⟩ (k := 5) ⟨.same, .same, .same, .same, hold _ _, .same, .same, .same, .same, .same, .same, .same, .same, .same, .same⟩

theorem pl_mem {j : Nat} (hj : j < 3) (s : Sr) : (stx j s).pl ∈ wos s := by
  match j, hj with
  | 0, _ => simp [wos, stx]
  | 1, _ => simp [wos, stx]
  | 2, _ => simp [wos, stx]
/-- The first j states of s are without the child, the others as they were. -/
structure Fg (k : Int) (s : Sr) (j : Nat) (s' : Sr) : Prop where
  par : s'.par = s.par ∧ s'.syn = s.syn
  done : ∀ i, i < 3 → i < j → (stx i s').q = outQ k (stx i s).q
  left : ∀ i, i < 3 → j ≤ i → stx i s' = stx i s
theorem Fg.fin {k : Int} {s s' : Sr} (h : Fg k s 3 s') : s'.f = outS k s.f := by
  have h0 : s'.pe.q = outQ k s.pe.q := h.done 0 (by omega) (by omega)
  have h1 : s'.ca.q = outQ k s.ca.q := h.done 1 (by omega) (by omega)
  have h2 : s'.no.q = outQ k s.no.q := h.done 2 (by omega) (by omega)
  rw [Sr.f, outS, h0, h1, h2, h.par.1, h.par.2]
  rfl
theorem outL_od {w : World} {x : Sl} (h : RdM 1 w x.a x.n x.c x.l) (k : Int) : sg (dr k (un1 x.l)) = outL k x.l := by
  rw [← outL_sg, sg_un1 h.size]
theorem Fg.next {k : Int} {s s' : Sr} {j : Nat} (h : Fg k s j s') (hj : j < 3) {w : World} (hr : RdM 1 w (stx j s).od.a (stx j s).od.n (stx j s).od.c (stx j s).od.l) {l y : Sl} (hl : l.l = sg (dr k (un1 (stx j s).od.l))) (hy : y.l = outL k (stx j s).pl.l) :
    Fg k s (j + 1) (sux j { { stx j s' with od := l } with pl := y } s') := by
  have he := h.left j hj (Nat.le_refl _)
  refine ⟨⟨(sux_par _ _).1.trans h.par.1, (sux_par _ _).2.trans h.par.2⟩, fun i hi hlt => ?_, fun i hi hle => ?_⟩
  · by_cases e1 : i = j
    · subst e1
      rw [stx_sux, he]
      simp only [Sx.q, outQ, hl, hy, outL_od hr]
    · rw [stx_sux_ne hi hj e1]
      exact h.done i hi (by omega)
  · rw [stx_sux_ne hi hj (by omega)]
    exact h.left i hi (by omega)
/-- What a round of forget leaves. -/
structure Fr (base : Nat) (w : World) (p m : Nat) (L : Po) (id k : Int) (e : Ps) (c b : Nat) (j : Nat) (wr : World) : Prop where
  ex : ∃ s', Fg k e.s j s' ∧ PfR base w p m L (pab (st L id ⟨e.g, s'⟩)) wr (st L id ⟨e.g, s'⟩)
  ck : Bk wr c 3 #[.int .i64 k]
  bk : Bk wr b 66 #[.pointer (some ⟨e.g, 0, none⟩), .pointer (some ⟨e.g, 10, none⟩), .pointer (some ⟨e.g, 20, none⟩)]
  lc : w.heap.size ≤ c
  lb : w.heap.size ≤ b

set_option maxHeartbeats 1000000 in
/-- Ahead of order.Drop. -/
theorem Fr.at_ {k : Int} {c b j : Nat} {wr : World} (h : Fr base w p m L id k e c b j wr) (he : gt L id = some e) (hj : j < 3) :
    (∀ W, Below wr.heap.size wr W → W.cell? ⟨e.g, j * 10 + 8, none⟩ = some (.slice (stx j e.s).od.a (stx j e.s).od.n (stx j e.s).od.c) ∧ W.cell? ⟨c, 0, none⟩ = some (.int .i64 k) ∧ e.g < W.heap.size ∧ c < W.heap.size ∧ RdM 1 W (stx j e.s).od.a (stx j e.s).od.n (stx j e.s).od.c (stx j e.s).od.l) ∧
    wr.cell? ⟨b, j, none⟩ = some (.pointer (some ⟨e.g, j * 10, none⟩)) ∧ b < wr.heap.size := by
  obtain ⟨s', hF, hR⟩ := h.ex
  have hg : gt (st L id ⟨e.g, s'⟩) id = some ⟨e.g, s'⟩ := by rw [gt_st, if_pos rfl, he]; rfl
  refine ⟨fun W hW => ?_, ?_, h.bk.lt⟩
  · have h1 := hR.pf.on hW
    have h2 : W.cell? ⟨e.g, j * 10 + 8, none⟩ = _ := h1.cell hg
    have h3 : e.g < W.heap.size := (h1.wlt hg (mem_wb.2 (.inl rfl))).2
    rw [pcs_stx hj (by omega)] at h2
    rw [hF.left j hj (Nat.le_refl _), sxc_od] at h2
    have h4 := (h1.stOk hg j).1.od
    rw [hF.left j hj (Nat.le_refl _)] at h4
    have h5 : W.cell? ⟨c, 0, none⟩ = some (.int .i64 k) := (h.ck.on hW).cell 0
    have h6 := (h.ck.on hW).lt
    exact ⟨h2, h5, h3, h6, h4⟩
  · have hbk := h.bk
    clear hg hF hR h he
    match j, hj with
    | 0, _ => exact hbk.cell 0
    | 1, _ => exact hbk.cell 1
    | 2, _ => exact hbk.cell 2
set_option maxHeartbeats 1000000 in
/-- Behind it: the order stored; then behind DeleteFunc. -/
theorem Fr.mid {k : Int} {c b j : Nat} {wr : World} (h : Fr base w p m L id k e c b j wr) (h0 : Pf base w p m L) (he : gt L id = some e) (hj : j < 3) {W W1 : World} {v : Value} (hb : Below wr.heap.size wr W) (ho : OwZ W W1 v (dr k (un1 (stx j e.s).od.l))) :
    ∃ l : Sl, v = .slice l.a l.n l.c ∧ W1.cell? ⟨e.g, j * 10 + 8, none⟩ = some (.slice (stx j e.s).od.a (stx j e.s).od.n (stx j e.s).od.c) ∧ (∀ i, W1.frozen? ⟨e.g, i, none⟩ = false) ∧ e.g < W1.heap.size ∧
    ∃ W2, W2 = W1.setCell ⟨e.g, j * 10 + 8, none⟩ (.slice l.a l.n l.c) ∧ W2.cell? ⟨e.g, j * 10 + 9, none⟩ = some (.slice (stx j e.s).pl.a (stx j e.s).pl.n (stx j e.s).pl.c) ∧ e.g < W2.heap.size ∧ W2.cell? ⟨c, 0, none⟩ = some (.int .i64 k) ∧
      W2.ownsRow base 46 3 (stx j e.s).pl.v (stx j e.s).pl.n (mcs (stx j e.s).pl.l) ∧ RdM 3 W2 (stx j e.s).pl.a (stx j e.s).pl.n (stx j e.s).pl.c (stx j e.s).pl.l ∧ c ∉ (stx j e.s).pl.bl ∧
      ∀ (W3 : World) (y : Sl), y.l = outL k (stx j e.s).pl.l → RdM 3 W3 y.a y.n y.c y.l → W3.ownsRow base 46 3 y.v y.n (mcs y.l) → (∀ x ∈ y.bl, x ∈ (stx j e.s).pl.bl) → Kp (stx j e.s).pl.bl W2 W3 →
        W3.cell? ⟨e.g, j * 10 + 9, none⟩ = some (.slice (stx j e.s).pl.a (stx j e.s).pl.n (stx j e.s).pl.c) ∧ (∀ i, W3.frozen? ⟨e.g, i, none⟩ = false) ∧ e.g < W3.heap.size ∧ Fr base w p m L id k e c b (j + 1) (W3.setCell ⟨e.g, j * 10 + 9, none⟩ (.slice y.a y.n y.c)) := by
  obtain ⟨s', hF, hR⟩ := h.ex
  have hle := hF.left j hj (Nat.le_refl _)
  have hg : gt (st L id ⟨e.g, s'⟩) id = some ⟨e.g, s'⟩ := by rw [gt_st, if_pos rfl, he]; rfl
  obtain ⟨l, rfl, hl1, hl2, hl3⟩ := sl_of_owz ho
  have hb1 := Below.on hb ho.bel
  have h1 := hR.pf.on hb1
  have c8 : W1.cell? ⟨e.g, j * 10 + 8, none⟩ = _ := h1.cell hg
  rw [pcs_stx hj (by omega)] at c8
  rw [hle, sxc_od] at c8
  have fz1 := h1.fz hg
  have lt1 : e.g < W1.heap.size := (h1.wlt hg (mem_wb.2 (.inl rfl))).2
  refine ⟨l, rfl, c8, fz1, lt1, ?_⟩
  have hR2 := hR.pf.fgOd hg hj hb1 l hl2 (fun y hy _ => Nat.le_trans hb.size (hl3 y hy))
  rw [st_st] at hR2
  obtain ⟨s2, hs2⟩ : ∃ s2, s2 = sux j { stx j s' with od := l } s' := ⟨_, rfl⟩
  have hst : stx j s2 = { stx j s' with od := l } := by rw [hs2, stx_sux]
  simp only at hR2
  rw [← hs2] at hR2
  have hg2 : gt (st L id ⟨e.g, s2⟩) id = some ⟨e.g, s2⟩ := by rw [gt_st, if_pos rfl, he]; rfl
  have hpl : (stx j s2).pl = (stx j e.s).pl := by rw [hst, hle]
  have hce : c ≠ e.g := by
    have := (h0.wlt he (mem_wb.2 (.inl rfl))).2
    have := h.lc
    omega
  have hbe : b ≠ e.g := by
    have := (h0.wlt he (mem_wb.2 (.inl rfl))).2
    have := h.lb
    omega
  have ck2 := (h.ck.on hb1).other hce (j * 10 + 8) (Value.slice l.a l.n l.c)
  have bk2 := (h.bk.on hb1).other hbe (j * 10 + 8) (Value.slice l.a l.n l.c)
  have hplo : ∀ x ∈ (stx j e.s).pl.bl, x < w.heap.size := fun x hx => by
    have ho := h0.stOk he j
    exact (own_blk ho.2 hx).2
  obtain ⟨ok2, ow2⟩ := hR2.pf.stOk hg2 j
  simp only at ok2 ow2
  have rd2 := ok2.pl
  rw [hpl] at ow2 rd2
  have c9 : (W1.setCell ⟨e.g, j * 10 + 8, none⟩ (.slice l.a l.n l.c)).cell? ⟨e.g, j * 10 + 9, none⟩ = _ := hR2.pf.cell hg2
  rw [pcs_stx hj (by omega), hst, hle, sxc_pl] at c9
  have lt2 : e.g < (W1.setCell ⟨e.g, j * 10 + 8, none⟩ (.slice l.a l.n l.c)).heap.size := (hR2.pf.wlt hg2 (mem_wb.2 (.inl rfl))).2
  refine ⟨_, rfl, c9, lt2, ck2.cell 0, ow2, rd2, fun hm => by have := hplo c hm; have := h.lc; omega, fun W3 y hy1 hy2 hy3 hy4 hk3 => ?_⟩
  have hmem : (stx j s2).pl ∈ wos s2 := pl_mem hj s2
  have hge := (hR2.pf.sep id _ hg2).1.g (stx j s2).pl hmem
  rw [hpl] at hge
  simp only at hge
  have hB3 : Bk W3 e.g 58 (pcs s2).toArray := (hR2.pf.bk hg2).kp hk3 hge
  have hR3 := hR2.pf.fgPl hg2 hj (w := W3) (by simp only; rw [hpl]; exact hk3) y hy2 hy3 (fun x hx => by simp only; rw [hpl]; exact hy4 x hx)
  rw [st_st] at hR3
  simp only at hR3
  have c93 : W3.cell? ⟨e.g, j * 10 + 9, none⟩ = _ := hk3.cell c9 hge
  refine ⟨c93, fun i => hB3.fz i, hB3.lt, ?_⟩
  have hs3 : sux j { stx j s2 with pl := y } s2 = sux j { { stx j s' with od := l } with pl := y } s' := by
    rw [hst, hs2]
    match j, hj with
    | 0, _ => rfl
    | 1, _ => rfl
    | 2, _ => rfl
  rw [hs3] at hR3
  refine ⟨⟨_, hF.next hj (w := w) (h0.stOk he j).1.od hl1 hy1, (hR.trans hR2).trans hR3⟩, ?_, ?_, h.lc, h.lb⟩
  · exact (ck2.kp hk3 (fun hm => by have := hplo c hm; have := h.lc; omega)).other hce _ _
  · exact (bk2.kp hk3 (fun hm => by have := hplo b hm; have := h.lb; omega)).other hbe _ _

set_option maxRecDepth 100000 in
set_option maxHeartbeats 2000000 in
theorem fforget_any (hE : Fe w es) (hB : 5 ≤ base) (h : Pf base w p m L) (he : gt L id = some e) (hL : Few L) (k : Int) :
    Calls Tryd.prog 68 #[.pointer (some ⟨e.g, 0, none⟩), .int .i64 k] w fun e' w' => e' = .returned undef ∧ ∃ s', PfR base w p m L (upd (pab L) id (outS k)) w' (st L id ⟨e.g, s'⟩) ∧ s'.par = e.s.par ∧ s'.syn = e.s.syn := by
  have HE : Hid (∀ c b j wr, Fr base w p m L id k e c b j wr → ∀ W, Below wr.heap.size wr W → Pl W (es.getD 10 ⟨0, 0, none⟩)) := fun c b j wr hF W hW => by
    obtain ⟨s', _, hR⟩ := hF.ex
    exact ((hE.kb (hR.bel h) hB).on hW).pl
  have H := hid h
  have HG := hid he
  have HN : Hid (∀ j, j < 3 → (stx j e.s).od.n ≤ 1000000) := fun j hj => by
    obtain ⟨h1, h2, h3⟩ := hL id e he
    unfold Sx.Len at h1 h2 h3
    match j, hj with
    | 0, _ => show e.s.pe.od.n ≤ 1000000; omega
    | 1, _ => show e.s.ca.od.n ≤ 1000000; omega
    | 2, _ => show e.s.no.od.n ≤ 1000000; omega
  have hlt := (h.wlt he (mem_wb.2 (.inl rfl))).2
  have c1 : w.cell? ⟨e.g, 0, none⟩ = some (.bool e.s.pe.at_) := h.cell he
  clear h he hE hL
  go_enter Tryd.func68, Tryd.ntmps68
  go_upto_region 1 with fail
  go_cut [3, 15, 16, 17] (fun v3 v15 v16 v17 wc => ∃ c b, v3 = .pointer (some ⟨c, 0, none⟩) ∧ v15 = .slice (some ⟨b, 0, none⟩) 3 3 ∧ v16 = .int .i64 3 ∧ v17 = .int .i64 0 ∧ Fr base w p m L id k e c b 0 wc)
  case first =>
    go_region
    go_wp2_with fail
    go_meet
    have hb1 := bel_new w (.cells #[.int .i64 k] 3)
    have hb2 := Below.on (bel_new (w.alloc (.cells #[.int .i64 k] 3)) (.cells #[.pointer (some ⟨e.g, 0, none⟩), .pointer (some ⟨e.g, 10, none⟩), .pointer (some ⟨e.g, 20, none⟩)] 66)) (Below.refl _ _).drew
    have hk2 := (bk_new (w.alloc (.cells #[.int .i64 k] 3)) #[.pointer (some ⟨e.g, 0, none⟩), .pointer (some ⟨e.g, 10, none⟩), .pointer (some ⟨e.g, 20, none⟩)] 66).on (Below.refl _ _).drew
    rw [size_new] at hk2
    have hs : st L id ⟨e.g, e.s⟩ = L := st_self H.out.nd HG.out
    refine ⟨_, _, rfl, rfl, rfl, rfl, ⟨e.s, ⟨⟨rfl, rfl⟩, fun i _ hi => absurd hi (by omega), fun i _ _ => rfl⟩, ?_⟩, (bk_new w _ _).on hb2, hk2, Nat.le_refl _, by omega⟩
    rw [hs]
    exact PfR.refl H.out (Below.on hb1 hb2)
  obtain ⟨c, b, rfl, rfl, rfl, rfl, hF0⟩ := hcut
  have HF0 := hid hF0
  clear hF0 c1 hlt
  go_wp2
  go_loopw [17] (fun v wr => ∃ j : Nat, v = .int .i64 j ∧ j ≤ 3 ∧ Fr base w p m L id k e c b j wr) (fun v _ => 3 - (numOf v).toNat)
  case atStart => exact ⟨0, rfl, by omega, HF0.out⟩
  case round =>
    obtain ⟨j, rfl, hj, hF⟩ := hrel
    have HF := hid hF
    clear hF HF0
    by_cases hgo : j < 3
    · have e1 : decide ((j : Int) < 3) = true := decide_eq_true (by omega)
      have e2 : (j : Int) < 3 := by omega
      obtain ⟨hA, c1, l1⟩ := HF.out.at_ HG.out hgo
      have HA := hid hA
      have HM := hid (fun W W1 v (hb : Below wr.heap.size wr W) (ho : OwZ W W1 v (dr k (un1 (stx j e.s).od.l))) => HF.out.mid H.out HG.out hgo hb ho)
      have HP := hid (HE.out c b j wr HF.out)
      have hn := HN.out j hgo
      clear hA
      go_upto_region 4 with fail
      refine wp_region_gate_drew (g := 9) (S := RowKit.Below wr.heap.size wr) (by kernel_rfl) ?hh (fun hHeld => ?_)
      case hh => exact ((Below.refl _ _).drew)
      generalize wr.drew = W0 at hHeld ⊢
      try dsimp only at hHeld
      refine wpAnyG_take (i := 0) (v := ?_) rfl (by kernel_rfl) (by kernel_rfl) (by kernel_rfl) (by kernel_rfl) (fun _ _ _ h => h) (Or.inl ⟨by kernel_rfl, ?hy0⟩) (by assumption) ?_
      case hy0 => (intro wI hSw; (try dsimp only at hSw); obtain ⟨t1, t2, t3, t4, -⟩ := HA.out _ hSw; go_simp; try with_reducible rfl)
      try simp only [Act.put, List.getElem_toArray, List.getElem_cons_zero, List.setIfInBounds_toArray, List.set_cons_zero, List.set_cons_succ]
      refine wpAnyG_take (i := 1) (v := ?_) rfl (by kernel_rfl) (by kernel_rfl) (by kernel_rfl) (by kernel_rfl) (fun _ _ _ h => h) (Or.inl ⟨by kernel_rfl, ?hy1⟩) (by assumption) ?_
      case hy1 => (intro wI hSw; (try dsimp only at hSw); obtain ⟨t1, t2, t3, t4, -⟩ := HA.out _ hSw; go_simp; try with_reducible rfl)
      try simp only [Act.put, List.getElem_toArray, List.getElem_cons_zero, List.getElem_cons_succ, List.setIfInBounds_toArray, List.set_cons_zero, List.set_cons_succ]
      refine wpAnyG_take (i := 2) (v := ?_) rfl (by kernel_rfl) (by kernel_rfl) (by kernel_rfl) (by kernel_rfl) (fun _ _ _ h => h) (Or.inl ⟨by kernel_rfl, ?hy2⟩) (by assumption) ?_
      case hy2 => (intro wI hSw; (try dsimp only at hSw); obtain ⟨t1, t2, t3, t4, -⟩ := HA.out _ hSw; go_simp; try with_reducible rfl)
      try simp only [Act.put, List.getElem_toArray, List.getElem_cons_zero, List.getElem_cons_succ, List.setIfInBounds_toArray, List.set_cons_zero, List.set_cons_succ]
      refine wpAnyG_take (i := 3) (v := ?_) rfl (by kernel_rfl) (by kernel_rfl) (by kernel_rfl) (by kernel_rfl) (fun _ _ _ h => h) (Or.inl ⟨by kernel_rfl, ?hy3⟩) (by assumption) ?_
      case hy3 => (intro wI hSw; (try dsimp only at hSw); obtain ⟨t1, t2, t3, t4, -⟩ := HA.out _ hSw; go_simp; try with_reducible rfl)
      try simp only [Act.put, List.getElem_toArray, List.getElem_cons_zero, List.getElem_cons_succ, List.setIfInBounds_toArray, List.set_cons_zero, List.set_cons_succ]
      refine wpAnyG_take (i := 4) (v := ?_) rfl (by kernel_rfl) (by kernel_rfl) (by kernel_rfl) (by kernel_rfl) (fun _ _ _ h => h) (Or.inl ⟨by kernel_rfl, ?hy4⟩) (by assumption) ?_
      case hy4 => (intro wI hSw; (try dsimp only at hSw); obtain ⟨t1, t2, t3, t4, -⟩ := HA.out _ hSw; go_simp; try with_reducible rfl)
      try simp only [Act.put, List.getElem_toArray, List.getElem_cons_zero, List.getElem_cons_succ, List.setIfInBounds_toArray, List.set_cons_zero, List.set_cons_succ]
      refine wpAnyG_take (i := 5) (v := ?_) rfl (by kernel_rfl) (by kernel_rfl) (by kernel_rfl) (by kernel_rfl) (fun _ _ _ h => h) (Or.inl ⟨by kernel_rfl, ?hy5⟩) (by assumption) ?_
      case hy5 => (intro wI hSw; (try dsimp only at hSw); obtain ⟨t1, t2, t3, t4, -⟩ := HA.out _ hSw; go_simp; try with_reducible rfl)
      try simp only [Act.put, List.getElem_toArray, List.getElem_cons_zero, List.getElem_cons_succ, List.setIfInBounds_toArray, List.set_cons_zero, List.set_cons_succ]
      refine wpAnyG_ready (rs := [6]) (by kernel_rfl) (by simp) ?_
      refine AllReadyG.cons rfl (fun K hK => ?_) AllReadyG.nil
      go_simp
      go_wp2_with fail
      refine (odrop_any _ _ _ _ k _ _ (HP.out _ hHeld) (rz_of_rdm (HA.out _ hHeld).2.2.2.2) hn).mono ?_
      rintro e' W6 ⟨v6, rfl, ho6⟩
      obtain ⟨l6, rfl, d1, d2, d3, W2, hW2, d5, d6, d7, d8, d9, d10, d11⟩ := HM.out _ _ _ hHeld ho6
      have HW2 := hid hW2
      have HD := hid (And.intro d8 (And.intro d9 (And.intro d10 d11)))
      refine hK.out _ _ (Below.on hHeld ho6.bel) (fun _ => ?_)
      have hH2 := Below.on hHeld ho6.bel
      clear hK K hHeld ho6 hW2 d8 d9 d10 d11
      have hHeld := hH2
      clear hH2
      try simp only [Act.put, List.getElem_toArray, List.getElem_cons_zero, List.getElem_cons_succ, List.setIfInBounds_toArray, List.set_cons_zero, List.set_cons_succ]
      refine wpAnyG_take (i := 7) (v := ?_) rfl (by kernel_rfl) (by kernel_rfl) (by kernel_rfl) (by kernel_rfl) (fun _ _ _ h => h) (Or.inl ⟨by kernel_rfl, ?hy7⟩) (by assumption) ?_
      case hy7 => (intro wI hSw; (try dsimp only at hSw); obtain ⟨t1, t2, t3, t4, -⟩ := HA.out _ hSw; go_simp; try with_reducible rfl)
      try simp only [Act.put, List.getElem_toArray, List.getElem_cons_zero, List.getElem_cons_succ, List.setIfInBounds_toArray, List.set_cons_zero, List.set_cons_succ]
      refine wpAnyG_take (i := 8) (v := ?_) rfl (by kernel_rfl) (by kernel_rfl) (by kernel_rfl) (by kernel_rfl) (fun _ _ _ h => h) (Or.inl ⟨by kernel_rfl, ?hy8⟩) (by assumption) ?_
      case hy8 => (intro wI hSw; (try dsimp only at hSw); obtain ⟨t1, t2, t3, t4, -⟩ := HA.out _ hSw; go_simp; try with_reducible rfl)
      try simp only [Act.put, List.getElem_toArray, List.getElem_cons_zero, List.getElem_cons_succ, List.setIfInBounds_toArray, List.set_cons_zero, List.set_cons_succ]
      have hG := hHeld
      clear hHeld
      have hHeld : True := trivial
      refine wpAnyG_gateOp rfl (by kernel_rfl) (fun K hK => ?_)
      go_simp
      refine hK.out _ _ trivial (fun _ => ?_)
      clear hK K
      try simp only [Act.put, List.getElem_toArray, List.getElem_cons_zero, List.getElem_cons_succ, List.setIfInBounds_toArray, List.set_cons_zero, List.set_cons_succ]
      refine wpAnyH_done (by kernel_rfl) ?_ _
      rw [← HW2.out]
      clear HW2 d1 d2 d3 hG HA HM HP
      have HCD := hid (cdelete_any (stx j e.s).pl k c W2 HD.out.1 HD.out.2.1 d7 HD.out.2.2.1)
      go_wp2_with fail
      refine HCD.out.mono ?_
      rintro e' W3 ⟨y3, rfl, hy1, hy2, hy3, hy4, hy5⟩
      obtain ⟨f1, f2, f3, f4⟩ := HD.out.2.2.2 W3 y3 hy1 hy2 hy3 hy4 hy5
      have HX := hid f4
      clear f4 hy1 hy2 hy3 hy4 hy5 HCD HD
      go_wp2
      go_roundw
      case rel => exact ⟨j + 1, by go_num, by omega, HX.out⟩
      case measure => simp [numOf]; omega
    · have e1 : decide ((j : Int) < 3) = false := decide_eq_false (by omega)
      obtain rfl : j = 3 := by omega
      obtain ⟨s', hFg, hR⟩ := HF.out.ex
      have HX : Hid (∃ s', PfR base w p m L (upd (pab L) id (outS k)) wr (st L id ⟨e.g, s'⟩) ∧ s'.par = e.s.par ∧ s'.syn = e.s.syn) := ⟨s', hR.as (pab_upd HG.out (outS k) ⟨e.g, s'⟩ hFg.fin), hFg.par.1, hFg.par.2⟩
      clear hFg hR
      go_wp2
      go_end0
      exact ⟨rfl, HX.out⟩
end Go.Proofs.YtdgknofpkafppaaDoor

/- The program's forest: leave, Unsub, Drop. Written by forest/mk_pfm.py. -/
namespace Go.Proofs.YtdgknofpkafppaaDoor
open Go Go.RowKit

variable {base : Nat} {w0 w w' : World} {p m : Nat} {L L' : Po} {F : Fo} {id : Int} {es : List Addr} {e : Ps}
theorem Acy.ne {F : Fo} (h : Acy F) {x : Int} {s : Sf} (hs : gt F x = some s) : s.par ≠ x := fun e1 => by
  have := dpt_lt h hs
  rw [e1] at this
  omega

set_option maxRecDepth 100000 in
set_option maxHeartbeats 1000000 in
theorem fleave_any (hE : Fe w es) (hB : 5 ≤ base) (h : Pf base w p m L) (hN : Nok L) (hL : Few L) (he : gt L id = some e) :
    Calls Tryd.prog 52 #[.pointer (some ⟨p, 0, none⟩), .int .i64 id, .pointer (some ⟨e.g, 0, none⟩)] w fun e' w' => e' = .returned undef ∧ ∃ L', PfR base w p m L (unsF (pab L) id) w' L' := by
  have hs : gt (pab L) id = some e.s.f := by rw [gt_pab, he]; rfl
  have c1 : w.cell? ⟨e.g, 30, none⟩ = some (.int .i64 e.s.par) := h.cell he
  have hlt := (h.wlt he (mem_wb.2 (.inl rfl))).2
  cases h0 : (e.s.par == 0)
  · have h0' : e.s.par ≠ 0 := by simpa using h0
    obtain ⟨ep, hep, hpt⟩ := hN.up he h0'
    have hne : e.s.par ≠ id := hN.acy.ne hs
    have HU : Hid (unsF (pab L) id = upd (upd (pab L) e.s.par (outS id)) id fun s => { s with par := 0 }) := by
      rw [Hid, unsF, hs]
      simp only [Sr.f, h0', if_false]
    have HR : Hid (∀ W : World, Below w.heap.size w W → (Instr.lookup 52 (.map (some m)) (.int .i64 e.s.par) false).run Tryd.prog W = .ok (.pointer (some ⟨ep.g, 0, none⟩)) W ∧ W.cell? ⟨p, 0, none⟩ = some (.map (some m)) ∧ W.cell? ⟨e.g, 30, none⟩ = some (.int .i64 e.s.par) ∧ p < W.heap.size ∧ e.g < W.heap.size) := fun W hW => by
      have h1 := h.on hW
      refine ⟨?_, h1.c0, h1.cell he, h1.lt.1, (h1.wlt he (mem_wb.2 (.inl rfl))).2⟩
      have := h1.run (hN.key id e he).2
      rw [hpt] at this
      exact this
    have HF : Hid (∀ W : World, Below w.heap.size w W → Calls Tryd.prog 68 #[.pointer (some ⟨ep.g, 0, none⟩), .int .i64 id] W fun e' w' => e' = .returned undef ∧ w'.cell? ⟨e.g, 30, none⟩ = some (.int .i64 e.s.par) ∧ (∀ j, w'.frozen? ⟨e.g, j, none⟩ = false) ∧ e.g < w'.heap.size ∧ ∃ L', PfR base w p m L (unsF (pab L) id) (w'.setCell ⟨e.g, 30, none⟩ (.int .i64 0)) L') := fun W hW => by
      refine (fforget_any (hE.on hW) hB (h.on hW) hep hL id).mono fun e' w' ⟨h1, s', hR, _, _⟩ => ⟨h1, ?_⟩
      have he1 : gt (st L e.s.par ⟨ep.g, s'⟩) id = some e := by rw [gt_st, if_neg (fun e1 => hne e1.symm)]; exact he
      have c1 : w'.cell? ⟨e.g, 30, none⟩ = some (.int .i64 e.s.par) := hR.pf.cell he1
      refine ⟨c1, hR.pf.fz he1, (hR.pf.wlt he1 (mem_wb.2 (.inl rfl))).2, _, (((PfR.refl h hW).trans hR).trans (hR.pf.putPar he1 (Below.refl _ _) 0)).as ?_⟩
      rw [hR.ab, HU.out]
    clear h hE hN hL he hs hep hpt hne HU h0'
    go_enter Tryd.func52, Tryd.ntmps52
    go_upto_region 1 with fail
    clear c1
    refine wp_region_gate_drew (g := 10) (S := RowKit.Below w.heap.size w) (by kernel_rfl) ?hh (fun hHeld => ?_)
    case hh => exact ((Below.refl _ _).drew)
    generalize w.drew = W0 at hHeld ⊢
    try dsimp only at hHeld
    refine wpAnyG_take (i := 0) (v := ?_) rfl (by kernel_rfl) (by kernel_rfl) (by kernel_rfl) (by kernel_rfl) (fun _ _ _ h => h) (Or.inl ⟨by kernel_rfl, ?hy0⟩) (by assumption) ?_
    case hy0 => (intro wI hSw; (try dsimp only at hSw); obtain ⟨t1, t2, t3, t4, t5⟩ := HR.out _ hSw; go_simp; try with_reducible rfl)
    try simp only [Act.put, List.getElem_toArray, List.getElem_cons_zero, List.setIfInBounds_toArray, List.set_cons_zero, List.set_cons_succ]
    refine wpAnyG_take (i := 1) (v := ?_) rfl (by kernel_rfl) (by kernel_rfl) (by kernel_rfl) (by kernel_rfl) (fun _ _ _ h => h) (Or.inl ⟨by kernel_rfl, ?hy1⟩) (by assumption) ?_
    case hy1 => (intro wI hSw; (try dsimp only at hSw); obtain ⟨t1, t2, t3, t4, t5⟩ := HR.out _ hSw; go_simp; try with_reducible rfl)
    try simp only [Act.put, List.getElem_toArray, List.getElem_cons_zero, List.getElem_cons_succ, List.setIfInBounds_toArray, List.set_cons_zero, List.set_cons_succ]
    refine wpAnyG_take (i := 2) (v := ?_) rfl (by kernel_rfl) (by kernel_rfl) (by kernel_rfl) (by kernel_rfl) (fun _ _ _ h => h) (Or.inl ⟨by kernel_rfl, ?hy2⟩) (by assumption) ?_
    case hy2 => (intro wI hSw; (try dsimp only at hSw); obtain ⟨t1, t2, t3, t4, t5⟩ := HR.out _ hSw; go_simp; try with_reducible rfl)
    try simp only [Act.put, List.getElem_toArray, List.getElem_cons_zero, List.getElem_cons_succ, List.setIfInBounds_toArray, List.set_cons_zero, List.set_cons_succ]
    refine wpAnyG_take (i := 3) (v := ?_) rfl (by kernel_rfl) (by kernel_rfl) (by kernel_rfl) (by kernel_rfl) (fun _ _ _ h => h) (Or.inl ⟨by kernel_rfl, ?hy3⟩) (by assumption) ?_
    case hy3 => (intro wI hSw; (try dsimp only at hSw); obtain ⟨t1, t2, t3, t4, t5⟩ := HR.out _ hSw; go_simp; try with_reducible rfl)
    try simp only [Act.put, List.getElem_toArray, List.getElem_cons_zero, List.getElem_cons_succ, List.setIfInBounds_toArray, List.set_cons_zero, List.set_cons_succ]
    refine wpAnyG_take (i := 4) (v := ?_) rfl (by kernel_rfl) (by kernel_rfl) (by kernel_rfl) (by kernel_rfl) (fun _ _ _ h => h) (Or.inl ⟨by kernel_rfl, ?hy4⟩) (by assumption) ?_
    case hy4 => (intro wI hSw; (try dsimp only at hSw); obtain ⟨t1, t2, t3, t4, t5⟩ := HR.out _ hSw; go_simp; try with_reducible rfl)
    try simp only [Act.put, List.getElem_toArray, List.getElem_cons_zero, List.getElem_cons_succ, List.setIfInBounds_toArray, List.set_cons_zero, List.set_cons_succ]
    refine wpAnyG_take (i := 5) (v := ?_) rfl (by kernel_rfl) (by kernel_rfl) (by kernel_rfl) (by kernel_rfl) (fun _ _ _ h => h) (Or.inl ⟨by kernel_rfl, ?hy5⟩) (by assumption) ?_
    case hy5 => (intro wI hSw; (try dsimp only at hSw); obtain ⟨t1, t2, t3, t4, t5⟩ := HR.out _ hSw; go_simp; try with_reducible rfl)
    try simp only [Act.put, List.getElem_toArray, List.getElem_cons_zero, List.getElem_cons_succ, List.setIfInBounds_toArray, List.set_cons_zero, List.set_cons_succ]
    refine wpAnyG_take (i := 6) (v := ?_) rfl (by kernel_rfl) (by kernel_rfl) (by kernel_rfl) (by kernel_rfl) (fun _ _ _ h => h) (Or.inl ⟨by kernel_rfl, ?hy6⟩) (by assumption) ?_
    case hy6 => (intro wI hSw; (try dsimp only at hSw); obtain ⟨t1, t2, t3, t4, t5⟩ := HR.out _ hSw; go_simp; try with_reducible rfl)
    try simp only [Act.put, List.getElem_toArray, List.getElem_cons_zero, List.getElem_cons_succ, List.setIfInBounds_toArray, List.set_cons_zero, List.set_cons_succ]
    refine wpAnyG_take (i := 7) (v := ?_) rfl (by kernel_rfl) (by kernel_rfl) (by kernel_rfl) (by kernel_rfl) (fun _ _ _ h => h) (Or.inl ⟨by kernel_rfl, ?hy7⟩) (by assumption) ?_
    case hy7 => (intro wI hSw; (try dsimp only at hSw); obtain ⟨t1, t2, t3, t4, t5⟩ := HR.out _ hSw; go_simp; try with_reducible rfl)
    try simp only [Act.put, List.getElem_toArray, List.getElem_cons_zero, List.getElem_cons_succ, List.setIfInBounds_toArray, List.set_cons_zero, List.set_cons_succ]
    refine wpAnyG_take (i := 8) (v := ?_) rfl (by kernel_rfl) (by kernel_rfl) (by kernel_rfl) (by kernel_rfl) (fun _ _ _ h => h) (Or.inl ⟨by kernel_rfl, ?hy8⟩) (by assumption) ?_
    case hy8 => (intro wI hSw; (try dsimp only at hSw); obtain ⟨t1, t2, t3, t4, t5⟩ := HR.out _ hSw; go_simp; try with_reducible rfl)
    try simp only [Act.put, List.getElem_toArray, List.getElem_cons_zero, List.getElem_cons_succ, List.setIfInBounds_toArray, List.set_cons_zero, List.set_cons_succ]
    refine wpAnyG_take (i := 9) (v := ?_) rfl (by kernel_rfl) (by kernel_rfl) (by kernel_rfl) (by kernel_rfl) (fun _ _ _ h => h) (Or.inl ⟨by kernel_rfl, ?hy9⟩) (by assumption) ?_
    case hy9 => (intro wI hSw; (try dsimp only at hSw); obtain ⟨t1, t2, t3, t4, t5⟩ := HR.out _ hSw; go_simp; try with_reducible rfl)
    try simp only [Act.put, List.getElem_toArray, List.getElem_cons_zero, List.getElem_cons_succ, List.setIfInBounds_toArray, List.set_cons_zero, List.set_cons_succ]
    have hG := hHeld
    clear hHeld
    have hHeld : True := trivial
    refine wpAnyG_gateOp rfl (by kernel_rfl) (fun K hK => ?_)
    go_simp
    go_wp2_with fail
    refine (HF.out _ hG).mono ?_
    rintro e' W10 ⟨rfl, d1, d2, d3, d4⟩
    have HX := hid d4
    refine hK.out _ _ trivial (fun _ => ?_)
    clear hK K d4 hG HF HR
    try simp only [Act.put, List.getElem_toArray, List.getElem_cons_zero, List.getElem_cons_succ, List.setIfInBounds_toArray, List.set_cons_zero, List.set_cons_succ]
    refine wpAnyH_done (by kernel_rfl) ?_ _
    go_wp2
    go_end0
    exact ⟨rfl, HX.out⟩
  · have h0' : e.s.par = 0 := by simpa using h0
    have HX : Hid (PfR base w p m L (unsF (pab L) id) w L) := (PfR.refl h (Below.refl _ _)).as (by rw [unsF, hs]; simp [Sr.f, h0'])
    clear h hE hN hL he hs h0'
    go_enter Tryd.func52, Tryd.ntmps52
    go_wp2
    refine bodyPost_ret (results_none rfl _ _ _) rfl ?_
    exact ⟨rfl, _, HX.out⟩


/-- A surface taken out of the map. -/
theorem Pf.del (h : Pf base w p m L) {D : DataW Unit} (hD : Rp ptd none D (pmp L)) {n : Nat} (ho : w'.ownsMap Tryd.prog 3 ptR m n (D.del (.int .i64 id))) (ht : w.mapTurned w' m) :
    PfR base w p m L (rm (pab L) id) w' (rm L id) := by
  have hk := kp_turned ht
  have hgt : ∀ x e', gt (rm L id) x = some e' → x ≠ id ∧ gt L x = some e' := fun x e' hx => by
    rw [gt_rm] at hx
    split at hx
    · cases hx
    · rename_i hne
      exact ⟨hne, hx⟩
  have hpm : pmp (rm L id) = rm (pmp L) id := by
    rw [pmp, rm, rm, pmp, List.filter_map]
    rfl
  have hpa : pab (rm L id) = rm (pab L) id := by
    rw [pab, rm, rm, pab, List.filter_map]
    rfl
  have hnd := keys_rm h.nd id
  have hRp : Rp ptd none (D.del (.int .i64 id)) (pmp (rm L id)) := by rw [hpm]; exact hD.del id
  refine ⟨⟨h.lop, h.lom, h.ne, hk.var h.obj (by simpa using h.ne), ⟨_, ?_, hRp⟩, hnd, fun x e hx => ?_, fun x e hx => ?_, fun x e hx => h.sep x e (hgt x e hx).2, fun x y e1 e2 h1 h2 => h.sep2 x y e1 e2 (hgt _ _ h1).2 (hgt _ _ h2).2, fun x e hx => h.far x e (hgt x e hx).2⟩, hpa, hk.mono (fun b hb _ => by simp only [List.mem_cons, List.not_mem_nil, or_false] at hb; rw [hb]; exact List.mem_cons_self), fun b hb => ?_, fun b _ ho x e1 h1 => ho x e1 (hgt x e1 h1).2⟩
  · have := ptight ho Tryd.underlying3 hRp (by rw [pmp_keys]; exact hnd)
    rw [pmp_length] at this
    exact this
  · have hx' := (hgt x e hx).2
    exact hk.var (h.srf x e hx') (by simpa using ((h.sep x e hx').2 e.g (mem_wb.2 (.inl rfl))).2.2.1)
  · have hx' := (hgt x e hx).2
    exact (h.rows x e hx').kp hk (fun b hb hm => ((h.sep x e hx').2 b hb).2.2.1 (by simpa using hm)) (fun z hz b hb => by simp only [List.mem_cons, List.not_mem_nil, or_false] at hb; rw [hb]; exact (h.far x e hx' z hz).2)
  · obtain ⟨x, e1, h1, h2⟩ := (mem_wbs hnd).1 hb
    exact .inl ((mem_wbs h.nd).2 ⟨x, e1, (hgt x e1 h1).2, h2⟩)

/-- Nobody's any more, where it was id's. -/
def rsP (id : Int) (e : Ps) : Ps := if e.s.par = id then ⟨e.g, { e.s with par := 0 }⟩ else e
def rsL (id : Int) (left : Int → Bool) (L : Po) : Po := L.map fun e => (e.1, if left e.1 then e.2 else rsP id e.2)
theorem gt_rsL (id : Int) (left : Int → Bool) (L : Po) (x : Int) : gt (rsL id left L) x = (gt L x).map fun e => if left x then e else rsP id e := by
  induction L with
  | nil => rfl
  | cons e L ih =>
    rw [rsL, List.map_cons, gt, gt]
    by_cases h : e.1 = x
    · rw [if_pos h, if_pos h, ← h]
      rfl
    · rw [if_neg h, if_neg h]
      exact ih
theorem rsP_g (id : Int) (e : Ps) : (rsP id e).g = e.g := by unfold rsP; split <;> rfl
theorem rsL_st (hn : (keys L).Nodup) {left : Int → Bool} {x : Int} {e : Ps} (he : gt L x = some e) (hl : left x = true) : st (rsL id left L) x (rsP id e) = rsL id (fun z => left z && !(z == x)) L := by
  rw [st, rsL, rsL, List.map_map]
  refine List.map_congr_left fun y hy => ?_
  simp only [Function.comp]
  by_cases hx : y.1 = x
  · have := gt_of_mem hn hy
    rw [hx, he] at this
    cases this
    rw [if_pos hx]
    simp [hx, hl]
  · rw [if_neg hx]
    simp [hx]
theorem rsL_same (hn : (keys L).Nodup) {left : Int → Bool} {x : Int} {e : Ps} (he : gt L x = some e) (hl : left x = true) (hp : e.s.par ≠ id) : rsL id left L = rsL id (fun z => left z && !(z == x)) L := by
  have h1 := rsL_st (id := id) hn he hl
  have h2 : gt (rsL id left L) x = some (rsP id e) := by rw [gt_rsL, he]; simp [hl, rsP, hp]
  have h3 : (keys (rsL id left L)).Nodup := by
    have : keys (rsL id left L) = keys L := by simp [keys, rsL]
    rw [this]
    exact hn
  rw [st_self h3 h2] at h1
  exact h1
theorem rsL_all (id : Int) {left : Int → Bool} {L : Po} (h : ∀ x ∈ keys L, left x = true) : rsL id left L = L := by
  rw [rsL]
  conv => rhs; rw [← List.map_id L]
  refine List.map_congr_left fun x hx => ?_
  rw [if_pos (h _ (List.mem_map_of_mem hx))]
  rfl
theorem drpF_rsL {L1 : Po} (hg : (gt L id).isSome = true) (h1 : pab L1 = unsF (pab L) id) {left : Int → Bool} (hl : ∀ x ∈ keys L1, left x = false) : rm (pab (rsL id left L1)) id = drpF (pab L) id := by
  obtain ⟨e, he⟩ := Option.isSome_iff_exists.1 hg
  rw [drpF, gt_pab, he]
  simp only [Option.map_some]
  rw [← h1, pab, pab, rm, rm, rsL, List.map_map, List.filter_map, List.filter_map, List.map_map]
  refine List.map_congr_left fun x hx => ?_
  have hxm := (List.mem_filter.1 hx).1
  simp only [Function.comp, hl x.1 (List.mem_map_of_mem hxm)]
  unfold rsP
  simp only [Bool.false_eq_true, if_false]
  by_cases hp : x.2.s.par = id
  · simp [hp, Sr.f]
  · simp [hp, Sr.f]
/-- The iterator of a loop lies apart. -/
theorem Pf.iter {w1 : World} {L1 : Po} (h1 : Pf base w1 p m L1) {left : Int → Bool} (h : Pf base w p m (rsL id left L1)) {r : Nat} (hg : w.grownBy w' (some r)) (hr : w1.heap.size ≤ r) : Pf base w' p m (rsL id left L1) := by
  have hk : Kp [r] w w' := kp_of_grown hg
  obtain ⟨a1, a2⟩ := h1.lt
  refine h.kept hk (by simp only [List.mem_cons, List.not_mem_nil, or_false]; omega) (by simp only [List.mem_cons, List.not_mem_nil, or_false]; omega) (fun x e hx => ?_)
  rw [gt_rsL] at hx
  obtain ⟨e1, he1, rfl⟩ := Option.map_eq_some_iff.1 hx
  have hw : ∀ e2 : Ps, e2 = e1 ∨ e2 = rsP id e1 → wb e2 = wb e1 ∧ ros e2.s = ros e1.s := fun e2 h2 => by
    rcases h2 with rfl | rfl
    · exact ⟨rfl, rfl⟩
    · unfold rsP
      split <;> exact ⟨rfl, rfl⟩
  obtain ⟨q1, q2⟩ := hw (if left x = true then e1 else rsP id e1) (by split; exact .inl rfl; exact .inr rfl)
  rw [q1, q2]
  refine ⟨fun b hb hm => ?_, fun z hz b hb => ?_⟩
  · have := (h1.wlt he1 hb).2
    simp only [List.mem_cons, List.not_mem_nil, or_false] at hm
    omega
  · simp only [List.mem_cons, List.not_mem_nil, or_false] at hb
    rw [hb]
    exact (h1.rows x e1 he1).ros hz hr
end Go.Proofs.YtdgknofpkafppaaDoor

/- The program's forest: Drop. -/
namespace Go.Proofs.YtdgknofpkafppaaDoor
open Go Go.RowKit

variable {base : Nat} {w0 w w' : World} {p m : Nat} {L L' : Po} {F : Fo} {id : Int} {es : List Addr} {e : Ps}
theorem ptR_val {v : Value} {y : DataW Unit × List MemPlace} (h : ptR v = some y) : ∃ c, v = ptv c := by
  unfold ptR at h
  split at h
  · exact ⟨none, rfl⟩
  · rename_i g
    exact ⟨some g, rfl⟩
  · cases h
theorem pmp_rsL (id : Int) (left : Int → Bool) (L : Po) : pmp (rsL id left L) = pmp L := by
  rw [pmp, rsL, pmp, List.map_map]
  refine List.map_congr_left fun x _ => ?_
  simp only [Function.comp]
  split
  · rfl
  · rw [rsP_g]
/-- A round of Drop's loop. -/
structure Dp (base : Nat) (w1 : World) (p m : Nat) (L1 : Po) (D : DataW Unit) (id : Int) (r : Nat) (left : Lit → Bool) (cnt : Nat) (wr : World) : Prop where
  rg : wr.ranges Tryd.prog 3 ptR m r L1.length D left cnt
  pf : PfR base w1 p m L1 (pab (rsL id (fun x => left (.int .i64 x)) L1)) wr (rsL id (fun x => left (.int .i64 x)) L1)
  lo : w1.heap.size ≤ r
theorem same_int (x y : Int) : (Lit.int .i64 x).sameKey (.int .i64 y) = (x == y) := by
  rw [Bool.eq_iff_iff]
  constructor
  · intro h
    have := WideAt.sameKey_eq h
    simp only [Lit.int.injEq, true_and] at this
    simp [this]
  · intro h
    have : x = y := by simpa using h
    rw [this]
    exact WideAt.sameKey_self trivial
/-- An entry that comes: its surface; then the round's end. -/
theorem Dp.come {w1 : World} {L1 : Po} {D : DataW Unit} {r cnt : Nat} {left : Lit → Bool} {wr w2 : World} (h : Dp base w1 p m L1 D id r left cnt wr) (h1 : Pf base w1 p m L1) (hD : Rp ptd none D (pmp L1)) {x : Int} {c : Option Nat} {kl : Lit} {y : DataW Unit × List MemPlace} {cnt' : Nat}
    (hk : keyOf Tryd.prog 3 (.int .i64 x) = some kl) (hl : left kl = true) (hv : ptR (ptv c) = some y) (hat : ∀ zd, D.atKey kl zd = y.1) (hr : w2.ranges Tryd.prog 3 ptR m r L1.length D (fun z => left z && !z.sameKey kl) cnt') (hg : wr.grownBy w2 (some r)) :
    ∃ e1, gt L1 x = some e1 ∧ c = some e1.g ∧ w2.cell? ⟨e1.g, 30, none⟩ = some (.int .i64 e1.s.par) ∧ (∀ j, w2.frozen? ⟨e1.g, j, none⟩ = false) ∧ e1.g < w2.heap.size ∧
      (e1.s.par ≠ id → ∃ lf cn, Dp base w1 p m L1 D id r lf cn w2 ∧ cn = cnt') ∧
      (e1.s.par = id → ∃ lf cn, Dp base w1 p m L1 D id r lf cn (w2.setCell ⟨e1.g, 30, none⟩ (.int .i64 0)) ∧ cn = cnt') := by
  obtain rfl : kl = .int .i64 x := by
    obtain ⟨z, h2, h3, _⟩ := Maps.keyOf_int_inv Tryd.underlying3 hk
    cases h2
    exact h3
  have hpt : c = (gt (pmp L1) x).getD none := by
    have h2 := (hD x).2
    rw [hat] at h2
    have h3 : ptR (ptv c) = some (ptd c, []) := ptR_mk c
    rw [hv] at h3
    have h4 : y.1 = ptd c := by rw [Option.some.inj h3]
    rw [h4] at h2
    have h5 := ptR_mk c
    rw [h2] at h5
    have h6 := ptR_inv h5
    cases c with
    | none =>
      cases hq : (gt (pmp L1) x).getD none with
      | none => rfl
      | some q => rw [hq] at h6; cases h6
    | some c =>
      cases hq : (gt (pmp L1) x).getD none with
      | none => rw [hq] at h6; cases h6
      | some q =>
        rw [hq] at h6
        simp only [ptv, Value.pointer.injEq, Option.some.injEq, Addr.mk.injEq, and_true] at h6
        rw [h6]
  have hh : (gt (pmp L1) x).isSome = true := by
    have hown := h.rg.owns
    rw [← (hD x).1]
    have := hat .nil
    cases hc : Maps.has D (.int .i64 x) with
    | true => rfl
    | false =>
      obtain ⟨es, clock, since, seen, c0, _, F, _, hDD, _, _, _, hl1, hl2, _⟩ := h.rg
      obtain ⟨z, hz, hkz⟩ := hl2 _ hl
      have : Maps.has D (.int .i64 x) = true := by
        rw [hDD]
        exact List.any_eq_true.2 ⟨Go.WideElems.rg Tryd.prog 3 ptR z, mem_sorted.2 (List.mem_map.2 ⟨z, hz, rfl⟩), by rw [hkz]; exact WideAt.sameKey_self trivial⟩
      rw [this] at hc
      cases hc
  rw [gt_pmp] at hh hpt
  obtain ⟨e1, he1⟩ : ∃ e1, gt L1 x = some e1 := by
    cases hq : gt L1 x with
    | none => rw [hq] at hh; cases hh
    | some e1 => exact ⟨e1, rfl⟩
  rw [he1] at hpt
  have hgr : gt (rsL id (fun x => left (.int .i64 x)) L1) x = some e1 := by rw [gt_rsL, he1]; simp [hl]
  have h2 : Pf base w2 p m (rsL id (fun x => left (.int .i64 x)) L1) := h1.iter h.pf.pf hg h.lo
  have hP2 : PfR base w1 p m L1 (pab (rsL id (fun x => left (.int .i64 x)) L1)) w2 (rsL id (fun x => left (.int .i64 x)) L1) := ⟨h2, rfl, h.pf.kp.trans (kp_of_grown hg) (fun b hb hlt => by
    simp only [Option.toList_some, List.mem_cons, List.not_mem_nil, or_false] at hb
    have := h.lo
    omega), h.pf.new, h.pf.ofr⟩
  have hlf : (fun z : Int => left (.int .i64 z) && !(Lit.int .i64 z).sameKey (.int .i64 x)) = fun z => left (.int .i64 z) && !(z == x) := by
    funext z
    rw [same_int]
  refine ⟨e1, he1, hpt, h2.cell hgr, h2.fz hgr, (h2.wlt hgr (mem_wb.2 (.inl rfl))).2, fun hp => ⟨fun z => left z && !z.sameKey (.int .i64 x), cnt', ⟨hr, ?_, h.lo⟩, rfl⟩, fun hp => ⟨fun z => left z && !z.sameKey (.int .i64 x), cnt', ⟨?_, ?_, h.lo⟩, rfl⟩⟩
  · have := rsL_same (id := id) h1.nd (left := fun z => left (.int .i64 z)) he1 hl hp
    rw [this] at hP2
    simp only [hlf]
    exact hP2
  · refine hr.kept (row := some e1.g) ⟨rfl, rfl, rfl, by simp [World.setCell], fun k _ hk => Below.heap_setCell _ _ _ _ (fun e => hk (congrArg some e))⟩ ?_ ?_
    · intro e2
      have := ((h1.sep x e1 he1).2 e1.g (mem_wb.2 (.inl rfl))).2.2.1
      simp only [Option.some.injEq] at e2
      exact this e2.symm
    · intro e2
      have := (h1.wlt he1 (mem_wb.2 (.inl rfl))).2
      have := h.lo
      simp only [Option.some.injEq] at e2
      omega
  · have hR := hP2.trans (h2.putPar hgr (Below.refl _ _) 0)
    have he2 : (⟨e1.g, { e1.s with par := 0 }⟩ : Ps) = rsP id e1 := by rw [rsP, if_pos hp]
    have h3 := rsL_st (id := id) h1.nd (left := fun z => left (.int .i64 z)) he1 hl
    rw [he2, h3] at hR
    simp only [hlf]
    exact hR.as (by rw [← hR.ab])

set_option maxRecDepth 100000 in
set_option maxHeartbeats 1000000 in
theorem fdrop_any (hE : Fe w es) (hB : 5 ≤ base) (h : Pf base w p m L) (hN : Nok L) (hL : Few L) (id : Int) (hi : Bt id) :
    Calls Tryd.prog 23 #[.pointer (some ⟨p, 0, none⟩), .int .i64 id] w fun e w' => e = .returned (erv es (drpE (pab L) id)) ∧ ∃ L', PfR base w p m L (drpF (pab L) id) w' L' := by
  have HF := hid (ffind_any hE h id hi)
  cases hq : gt L id with
  | none =>
    have HS : Hid (pto L id = none ∧ hasE (pab L) id = 5 ∧ drpE (pab L) id = 5) := ⟨by rw [pto, hq]; rfl, by rw [hasE, gt_pab, hq]; rfl, by rw [drpE, gt_pab, hq]; rfl⟩
    have HX : Hid (∀ q, PfR base w p m L (drpF (pab L) id) (w.drewN q) L) := fun q => (PfR.refl h (below_drewN (Below.refl _ _) q)).as (by rw [drpF, gt_pab, hq]; rfl)
    rw [HS.out.1, HS.out.2.1] at HF
    rw [HS.out.2.2]
    clear hq h hE HS hN hL
    go_enter Tryd.func23, Tryd.ntmps23
    go_wp2_with fail
    refine HF.out.mono ?_
    rintro e w1 ⟨rfl, q1, rfl⟩
    rw [ptv_none, erv_succ]
    go_wp2
    go_ret
    exact ⟨rfl, _, HX.out q1⟩
  | some e =>
    have HS : Hid (pto L id = some e.g ∧ hasE (pab L) id = 0 ∧ drpE (pab L) id = 0) := ⟨by rw [pto, hq]; rfl, by rw [hasE, gt_pab, hq]; rfl, by rw [drpE, gt_pab, hq]; rfl⟩
    have HLV : Hid (∀ q, Calls Tryd.prog 52 #[.pointer (some ⟨p, 0, none⟩), .int .i64 id, .pointer (some ⟨e.g, 0, none⟩)] (w.drewN q) fun e' w' => e' = .returned undef ∧ ∃ L', PfR base w p m L (unsF (pab L) id) w' L') := fun q =>
        (fleave_any (hE.drewN q) hB (h.drewN q) hN hL hq).mono fun e' w' ⟨h1, L', hR⟩ => ⟨h1, L', (PfR.refl h (below_drewN (Below.refl _ _) q)).trans hR⟩
    have HQ : Hid ((gt L id).isSome = true) := by rw [Hid, hq]; rfl
    have HK := hid (kBt id hi)
    rw [HS.out.1, HS.out.2.1] at HF
    rw [HS.out.2.2]
    clear hq h hE HS hN hL
    go_enter Tryd.func23, Tryd.ntmps23
    go_wp2_with fail
    refine HF.out.mono ?_
    rintro e' w1 ⟨rfl, q1, rfl⟩
    rw [ptv_some, erv0]
    go_wp2_with fail
    refine (HLV.out q1).mono ?_
    rintro e' w1 ⟨rfl, L1, hR1⟩
    have HR1 := hid hR1
    obtain ⟨D, hown, hD⟩ := hR1.pf.own
    have HO := hid hown
    have HD := hid hD
    have c0 := hR1.pf.c0
    have l0 := hR1.pf.lt.1
    clear hR1 hown hD HLV HF
    go_wp2_with (at_range; refine wpList_range_own _ rfl (.tmp 25) 52 rfl 3 55 (Maps.int_keyed Tryd.underlying3) Tryd.underlying52 ptR m _ D rfl HO.out ?_; intro w2 hrg hg2 hs2)
    have HS : Hid (Dp base w1 p m L1 D id w1.heap.size (Maps.has D) (Maps.size D) w2) := by
      have hall : rsL id (fun x => Maps.has D (.int .i64 x)) L1 = L1 := rsL_all id (fun x hx => by
        rw [(HD.out x).1, gt_pmp]
        obtain ⟨e1, he1⟩ := Option.isSome_iff_exists.1 (gt_some.2 hx)
        rw [he1]
        rfl)
      refine ⟨hrg, ?_, Nat.le_refl _⟩
      rw [hall]
      exact PfR.refl HR1.out.pf ⟨hg2.os, hg2.tape, hg2.output, hg2.size, fun k hk => hg2.block k hk (by simp)⟩
    clear hrg hg2 hs2
    go_frame
    go_loopw [] (fun wr => ∃ lf cn, Dp base w1 p m L1 D id w1.heap.size lf cn wr) (fun wr => wr.rangeLeft m w1.heap.size)
    case atStart => exact ⟨_, _, HS.out⟩
    case round =>
      obtain ⟨lf, cn, hDp⟩ := hrel
      have HDP := hid hDp
      clear hDp HS
      go_wp2_with (at_next; refine wpList_next_ranges _ rfl (.tmp 26) rfl 3 (Maps.int_keyed Tryd.underlying3) ptR (Value.int .i64) ptv (fun key kl hkey => by obtain ⟨x, rfl, _⟩ := Maps.keyOf_int_inv Tryd.underlying3 hkey; exact ⟨x, rfl⟩) (fun v y hv => ptR_val hv) m w1.heap.size _ _ _ _ rfl HDP.out.rg ?_ ?_)
      · intro hc0 hl0
        have HOW := hid HDP.out.rg.owns
        have c1 := HDP.out.pf.pf.c0
        have l1 := HDP.out.pf.pf.lt.1
        have HFIN : Hid (∀ W', W'.ownsMap Tryd.prog 3 ptR m L1.length (D.del (.int .i64 id)) → wr.mapTurned W' m → ∃ L', PfR base w p m L (drpF (pab L) id) W' L') := fun W' ho ht => by
          have hD2 : Rp ptd none D (pmp (rsL id (fun x => lf (.int .i64 x)) L1)) := by rw [pmp_rsL]; exact HD.out
          exact ⟨_, ((HR1.out.trans HDP.out.pf).trans (HDP.out.pf.pf.del hD2 ho ht)).as (drpF_rsL HQ.out HR1.out.ab (fun x _ => hl0 _))⟩
        clear hc0 hl0 HDP HR1 c0 l0
        go_wp2_with (at_delete; refine wpList_delete_own _ rfl (.tmp 43) (.tmp 44) 52 3 rfl 55 (Maps.int_keyed Tryd.underlying3) Tryd.underlying52 ptR m _ D rfl HOW.out _ _ rfl HK.out ?_; intro w4 o4 t4; have HX := hid (HFIN.out _ o4 t4); clear o4 t4)
        go_ret
        exact ⟨rfl, HX.out⟩
      · intro x c kl y1 y2 w3 cnt3 hkx hlx hvx hat hrg3 hlt3 hg3 hs3 hen
        obtain ⟨e1, he1, rfl, c30, fz, lt3, hno, hyes⟩ := HDP.out.come HR1.out.pf HD.out (y := (y1, y2)) hkx hlx hvx hat hrg3 hg3
        have HLT : Hid (cnt3 < wr.rangeLeft m w1.heap.size) := by rw [Hid, HDP.out.rg.left_eq]; exact hlt3
        have HNO := hid hno
        have HYES := hid hyes
        rw [ptv_some] at hen ⊢
        clear he1 hkx hlx hvx hat hrg3 hlt3 hg3 hs3 hno hyes HDP c0 l0
        cases hp : (e1.s.par == id)
        · obtain ⟨lf2, cn2, hd2, rfl⟩ := HNO.out (by simpa using hp)
          have HD2 := hid hd2
          clear hd2 HNO HYES
          go_wp2
          go_roundw
          case rel => exact ⟨_, _, HD2.out⟩
          case measure =>
            rw [HD2.out.rg.left_eq]
            exact HLT.out
        · obtain ⟨lf2, cn2, hd2, rfl⟩ := HYES.out (by simpa using hp)
          have HD2 := hid hd2
          clear hd2 HNO HYES
          go_wp2
          go_roundw
          case rel => exact ⟨_, _, HD2.out⟩
          case measure =>
            rw [HD2.out.rg.left_eq]
            exact HLT.out
end Go.Proofs.YtdgknofpkafppaaDoor
