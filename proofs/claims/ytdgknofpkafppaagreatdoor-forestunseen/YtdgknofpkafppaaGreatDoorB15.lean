/- Lemmas that the proof leans on. -/
import Derived.Test.YtdgknofpkafppaaGreatDoorB14
namespace Go.Proofs.YtdgknofpkafppaaGreatDoor
open Go Go.RowKit
set_option maxRecDepth 100000
set_option maxHeartbeats 1000000
section
variable {base : Nat} {w0 w w' : World} {p m : Nat} {L : Po} {id : Int} {es : List Addr} {e : Ps}
structure Nok (L : Po) : Prop where
 acy : Acy (pab L)
 zero : gt L 0 = none
 par : ∀ x e, gt L x = some e → e.s.par = 0 ∨ (gt L e.s.par).isSome = true
 key : ∀ x e, gt L x = some e → Bt x ∧ Bt e.s.par
theorem fwithin_any (hE : Fe w es) (h : Pf base w p m L) (hN : Nok L) (x o : Int) (hx : (gt L x).isSome = true) :
  Calls Tryz.prog 71 #[.pointer (some ⟨p, 0, none⟩), .int .i64 x, .int .i64 o] w fun e w' => e = .returned (.bool (anc (pab L) x o)) ∧ ∃ q, w' = w.drewN q := by
 have HE := hid hE
 have H := hid h
 have HN := hid hN
 obtain ⟨ex, hex⟩ := Option.isSome_iff_exists.1 hx
 have hbx := (hN.key x ex hex).1
 clear hE h hN hex ex
 go_enter Tryz.func71, Tryz.ntmps71
 go_wp2
 go_loopw [1] (fun r wr => ∃ (y : Int) (q : Nat), r = .int .i64 y ∧ Bt y ∧ (y = 0 ∨ (gt L y).isSome = true) ∧ anc (pab L) x o = anc (pab L) y o ∧ wr = w.drewN q) (fun r _ => dpt (pab L) (numOf r))
 case atStart => exact ⟨x, 0, rfl, hbx, .inr hx, rfl, rfl⟩
 case round =>
  obtain ⟨y, q, rfl, hby, hy, hanc, rfl⟩ := hrel
  cases h0 : (y != 0)
  ·have h0' : y = 0 := by simpa using h0
   have HA : Hid (anc (pab L) x o = false) := by
    rw [Hid, hanc, h0', anc_none (by rw [gt_pab, HN.out.zero]; rfl)]
   clear hanc hy
   go_wp2
   go_ret
   rw [HA.out]
   exact ⟨rfl, q, rfl⟩
  ·have h0' : y ≠ 0 := by simpa using h0
   obtain ⟨ey, hey⟩ := Option.isSome_iff_exists.1 (hy.resolve_left h0')
   have hs : gt (pab L) y = some ey.s.f := by rw [gt_pab, hey]; rfl
   have ha := anc_some hs o
   cases h1 : (y == o)
   ·have HA : Hid (anc (pab L) x o = anc (pab L) ey.s.par o) := by rw [Hid, hanc, ha, h1]; rfl
    have HD : Hid (dpt (pab L) ey.s.par < dpt (pab L) y) := dpt_lt HN.out.acy hs
    have HP := hid (fparent_any (HE.out.drewN q) (H.out.drewN q) y hby)
    have HPE : Hid (parF (pab L) y = ey.s.par) := by rw [Hid, parF, hs]; rfl
    rw [HPE.out] at HP
    have HK := hid (HN.out.key y ey hey).2
    have HR := hid (HN.out.par y ey hey)
    clear hanc hy ha hs hey HPE h0'
    go_wp2_with fail
    refine HP.out.mono ?_
    rintro e w1 ⟨rfl, q1, rfl⟩
    go_wp2
    go_roundw
    case rel => exact ⟨ey.s.par, q + q1, rfl, HK.out, HR.out, HA.out, by simp⟩
    case measure =>
     simp only [numOf]
     exact HD.out
   ·have HA : Hid (anc (pab L) x o = true) := by rw [Hid, hanc, ha, h1]; rfl
    clear hanc hy ha hs hey h0'
    go_wp2
    go_ret
    rw [HA.out]
    exact ⟨rfl, q, rfl⟩
theorem flatest_any (h : Pf base w p m L) (he : gt L id = some e) :
  Calls Tryz.prog 74 #[.pointer (some ⟨e.g, 0, none⟩)] w fun e' w' => e' = .returned (latS e.s).v ∧ w' = w := by
 have c1 : w.cell? ⟨e.g, 7, none⟩ = some (.bool e.s.pe.ord) := h.cell he
 have c2 : w.cell? ⟨e.g, 8, none⟩ = some (.slice e.s.pe.od.a e.s.pe.od.n e.s.pe.od.c) := h.cell he
 have c3 : w.cell? ⟨e.g, 17, none⟩ = some (.bool e.s.ca.ord) := h.cell he
 have c4 : w.cell? ⟨e.g, 18, none⟩ = some (.slice e.s.ca.od.a e.s.ca.od.n e.s.ca.od.c) := h.cell he
 have c5 : w.cell? ⟨e.g, 28, none⟩ = some (.slice e.s.no.od.a e.s.no.od.n e.s.no.od.c) := h.cell he
 have hlt := (h.wlt he (mem_wb.2 (.inl rfl))).2
 have HL : Hid (latS e.s = bif e.s.pe.ord then e.s.pe.od else bif e.s.ca.ord then e.s.ca.od else e.s.no.od) := rfl
 clear h he
 generalize latS e.s = ls at *
 rw [Sl.v]
 go_enter Tryz.func74, Tryz.ntmps74
 cases h1 : e.s.pe.ord with
 | true =>
  rw [h1] at HL
  have hl : ls = e.s.pe.od := HL.out
  subst hl
  go_wp2
  go_ret
  exact ⟨rfl, rfl⟩
 | false =>
  cases h2 : e.s.ca.ord with
  | true =>
   rw [h1, h2] at HL
   have hl : ls = e.s.ca.od := HL.out
   subst hl
   go_wp2
   go_ret
   exact ⟨rfl, rfl⟩
  | false =>
   rw [h1, h2] at HL
   have hl : ls = e.s.no.od := HL.out
   subst hl
   go_wp2
   go_ret
   exact ⟨rfl, rfl⟩
theorem freorder_any (h : Pf base w0 p m L) (he : gt L id = some e) (hb : Below w0.heap.size w0 w) (l : Sl) (hl : RdM 1 w l.a l.n l.c l.l) (hn : ∀ y, l.a = some y → 0 < l.n → w0.heap.size ≤ y.block) :
  Calls Tryz.prog 72 #[.pointer (some ⟨e.g, 0, none⟩), .slice l.a l.n l.c] w fun e' w' => e' = .returned undef ∧ PfR base w0 p m L (upd (pab L) id (ordS l.l)) w' (st L id ⟨e.g, { e.s with pe := { e.s.pe with ord := true, od := l } }⟩) := by
 have HR := hid (h.putOd he hb l hl hn)
 have hw := h.on hb
 have c1 : w.cell? ⟨e.g, 7, none⟩ = some (.bool e.s.pe.ord) := hw.cell he
 have c2 : w.cell? ⟨e.g, 8, none⟩ = some (.slice e.s.pe.od.a e.s.pe.od.n e.s.pe.od.c) := hw.cell he
 have f1 := hw.fz he
 have hlt := (hw.wlt he (mem_wb.2 (.inl rfl))).2
 clear hw h hl hn hb
 go_enter Tryz.func72, Tryz.ntmps72
 go_wp2
 go_end0
 exact ⟨rfl, HR.out⟩
theorem pab_synF (he : gt L id = some e) (h0 : e.s.par ≠ 0) (on : Bool) : upd (pab L) id (fun s => { s with syn := on }) = synF (pab L) id on := by
 rw [upd, synF, gt_pab, he]
 simp [Sr.f, h0]
theorem fsync_any (hE : Fe w es) (h : Pf base w p m L) (id : Int) (hi : Bt id) (hp : ∀ e, gt L id = some e → Bt e.s.par) (on : Bool) :
  Calls Tryz.prog 89 #[.pointer (some ⟨p, 0, none⟩), .int .i64 id, .bool on] w fun e w' => e = .returned (erv es (unsE (pab L) id)) ∧ ∃ L', PfR base w p m L (synF (pab L) id on) w' L' := by
 have HF := hid (ffindsub_any hE h id hi hp)
 cases hq : gt L id with
 | none =>
  have HT : Hid (fs1 L id = none ∧ fs2 L id = none ∧ unsE (pab L) id = 5) := ⟨by rw [fs1, hq], by rw [fs2, hq], by rw [unsE, gt_pab, hq]; rfl⟩
  have HX : Hid (∀ q, PfR base w p m L (synF (pab L) id on) (w.drewN q) L) := fun q => (PfR.refl h (below_drewN (Below.refl _ _) q)).as (by rw [synF, gt_pab, hq]; rfl)
  rw [HT.out.1, HT.out.2.1, HT.out.2.2] at HF
  rw [HT.out.2.2]
  clear hq h hE HT hp
  go_enter Tryz.func89, Tryz.ntmps89
  go_wp2_with fail
  refine HF.out.mono ?_
  rintro e w1 ⟨rfl, q1, rfl⟩
  rw [ptv_none, erv_succ]
  go_wp2
  go_ret
  exact ⟨rfl, L, HX.out q1⟩
 | some e =>
  cases h0 : (e.s.par == 0)
  ·have h0' : e.s.par ≠ 0 := by simpa using h0
   have HT : Hid (fs1 L id = some e.g ∧ unsE (pab L) id = 0) := ⟨by rw [fs1, hq]; simp [h0'], by rw [unsE, gt_pab, hq]; simp [Sr.f, h0']⟩
   rw [HT.out.1, HT.out.2] at HF
   rw [HT.out.2]
   have HX : Hid (∀ q, ∃ L', PfR base w p m L (synF (pab L) id on) ((w.drewN q).setCell ⟨e.g, 31, none⟩ (.bool on)) L') := fun q => ⟨_, (h.putSyn hq (below_drewN (Below.refl _ _) q) on).as (pab_synF hq h0' on)⟩
   have c1 : w.cell? ⟨e.g, 31, none⟩ = some (.bool e.s.syn) := h.cell hq
   have f1 := h.fz hq
   have hlt := (h.wlt hq (mem_wb.2 (.inl rfl))).2
   generalize fs2 L id = f2 at HF
   clear hq h hE HT hp h0' h0
   go_enter Tryz.func89, Tryz.ntmps89
   go_wp2_with fail
   refine HF.out.mono ?_
   rintro e' w1 ⟨rfl, q1, rfl⟩
   rw [ptv_some, erv0]
   go_wp2
   go_ret
   exact ⟨rfl, HX.out q1⟩
  ·have h0' : e.s.par = 0 := by simpa using h0
   have HT : Hid (fs1 L id = none ∧ fs2 L id = none ∧ unsE (pab L) id = 10) := ⟨by rw [fs1, hq]; simp [h0'], by rw [fs2, hq]; simp [h0'], by rw [unsE, gt_pab, hq]; simp [Sr.f, h0']⟩
   have HX : Hid (∀ q, PfR base w p m L (synF (pab L) id on) (w.drewN q) L) := fun q => (PfR.refl h (below_drewN (Below.refl _ _) q)).as (by rw [synF, gt_pab, hq]; simp [Sr.f, h0'])
   rw [HT.out.1, HT.out.2.1, HT.out.2.2] at HF
   rw [HT.out.2.2]
   clear hq h hE HT hp h0'
   go_enter Tryz.func89, Tryz.ntmps89
   go_wp2_with fail
   refine HF.out.mono ?_
   rintro e w1 ⟨rfl, q1, rfl⟩
   rw [ptv_none, erv_succ]
   go_wp2
   go_ret
   exact ⟨rfl, L, HX.out q1⟩
theorem fturn_any (hE : Fe w es) (h : Pf base w p m L) (id : Int) (hi : Bt id) (g : Nat) (lb : Array Value) (eg : ∀ args w, (callFunc g args).run Tryz.prog w = .ok (.enter g args) w) (T : World → Prop)
  (hno : gt L id = none → ∀ q, T (w.drewN q))
  (hg : ∀ e, gt L id = some e → ∀ q, Calls Tryz.prog g (#[.pointer (some ⟨e.g, 0, none⟩)] ++ lb) (w.drewN q) fun e' w' => e' = .returned undef ∧ T w') :
  Calls Tryz.prog 58 #[.pointer (some ⟨p, 0, none⟩), .int .i64 id, .func (.func g) #[] lb] w fun e w' => e = .returned (erv es (hasE (pab L) id)) ∧ T w' := by
 have HF := hid (ffind_any hE h id hi)
 cases hq : gt L id with
 | none =>
  have HS : Hid (pto L id = none ∧ hasE (pab L) id = 5) := ⟨by rw [pto, hq]; rfl, by rw [hasE, gt_pab, hq]; rfl⟩
  have HX := hid (hno hq)
  rw [HS.out.1, HS.out.2] at HF
  rw [HS.out.2]
  clear hq h hE HS hno hg
  go_enter Tryz.func58, Tryz.ntmps58
  go_wp2_with fail
  refine HF.out.mono ?_
  rintro e w1 ⟨rfl, q1, rfl⟩
  rw [ptv_none, erv_succ]
  go_wp2
  go_ret
  exact ⟨rfl, HX.out q1⟩
 | some e =>
  have HS : Hid (pto L id = some e.g ∧ hasE (pab L) id = 0) := ⟨by rw [pto, hq]; rfl, by rw [hasE, gt_pab, hq]; rfl⟩
  have HX := hid (hg e hq)
  have hlt := (h.wlt hq (mem_wb.2 (.inl rfl))).2
  have c1 : w.cell? ⟨e.g, 0, none⟩ = some (.bool e.s.pe.at_) := h.cell hq
  rw [HS.out.1, HS.out.2] at HF
  rw [HS.out.2]
  clear hq h hE HS hno hg
  go_enter Tryz.func58, Tryz.ntmps58
  go_wp2_with fail
  refine HF.out.mono ?_
  rintro e' w1 ⟨rfl, q1, rfl⟩
  rw [ptv_some, erv0]
  go_wp2_with fail
  refine (HX.out q1).mono ?_
  rintro e' w2 ⟨rfl, hT⟩
  have HT := hid hT
  clear hT
  go_wp2
  go_ret
  exact ⟨rfl, HT.out⟩
end
section
section
variable {P : Program} (w : World)
theorem run_append_own_at (base : Nat) (t tx ty e : TypeId) (i : TypeInfo) (z : Value) (size bytes : Nat) (ht : P.underlying t = some (.slice e)) (hi : P.info? e = some i) (hz : i.zero = some z)
  (hsize : i.size = size) (hby : i.bytes = bytes) (hzs : z.cells.size = size)
  (v : Value) (n : Nat) (xs : List Value) (hown : w.ownsRow base e size v n xs)
  (x : Value) (m : Nat) (news : List Value) (hs : Src P size tx x m news w)
  (h63 : n + m ≤ maxLen) (hbytes : ∀ old, old < n + m → Builtin.nextslicecap (n + m) old * bytes ≤ 281474976710656) (hbase : base ≤ w.heap.size) :
  ∃ v' w', (Builtin.append_ #[t, tx] ty #[v, x]).run P w = .ok v' w' ∧ w'.ownsRow base e size v' (n + m) (xs ++ news) ∧ w.grownBy w' v.ownBlock ∧ (v'.ownBlock = v.ownBlock ∨ v'.ownBlock = some w.heap.size) := by
 obtain ⟨v', w', hr, h1, h2⟩ := run_append_own_src (P := P) w base t tx ty e i z size bytes ht hi hz hsize hby hzs v n xs hown x m news hs h63 hbytes hbase
 refine ⟨v', w', hr, h1, h2, ?_⟩
 subst hsize
 subst hby
 have hl := hs.newsLen
 have hsmall : n + m ≤ 9223372036854775807 := by simp only [maxLen] at h63; omega
 rcases hown.2 with ⟨rfl, rfl⟩ | ⟨g, cap, cur, rfl, hbg, hg, hnc, hcm, hcs, htake⟩
 ·by_cases hm : m = 0
  ·subst hm
   have hn : news = [] := List.eq_nil_of_length_eq_zero (by simpa using hl)
   subst hn
   have hr' : (Builtin.append_ #[t, tx] ty #[.slice none 0 0, x]).run P w = .ok (.slice none 0 0) w := by
    rcases hs.kind with ⟨e', hk⟩ | hk <;> simp [Builtin.append_, run_underlying ht, run_underlying hk, sizeOf, typeInfo, hi, hs.len, hs.cells]
   have := hr.symm.trans hr'
   simp only [Result.ok.injEq] at this
   exact .inl (by rw [this.1])
  ·have hr' := run_append_grow_src (P := P) w t tx ty e i z ht hi hz none 0 0 [] (run_firstCells_none w.drew i.size 0 0 0) x m news hs (by omega) (by omega) (hbytes _ (by omega))
   have := hr.symm.trans hr'
   simp only [Result.ok.injEq] at this
   exact .inr (by rw [this.1]; rfl)
 ·by_cases hroom : n + m ≤ cap
  ·have hfit : n * i.size + news.length ≤ cur.size := by rw [hl, hcs, ← Nat.add_mul]; exact Nat.mul_le_mul_right _ hroom
   have hr' := run_append_room_own (P := P) (ty := ty) w t tx e i ht hi g n cap cur hg x m news hs hroom hfit
   have := hr.symm.trans hr'
   simp only [Result.ok.injEq] at this
   exact .inl (by rw [this.1]; rfl)
  ·have holds : ∀ j u, xs[j]? = some u → w.cell? ((⟨g, 0, none⟩ : Addr).add j) = some u := hown.cells (g := g) rfl
   have hold := run_firstCells_some (P := P) w.drew i.size n ⟨g, 0, none⟩ n cap xs hown.1 (by simpa using holds)
   have hr' := run_append_grow_src (P := P) w t tx ty e i z ht hi hz (some ⟨g, 0, none⟩) n cap xs hold x m news hs (by omega) (by omega) (hbytes _ (by omega))
   have := hr.symm.trans hr'
   simp only [Result.ok.injEq] at this
   exact .inr (by rw [this.1]; rfl)
theorem wpList_append_own_at {ops : Array Oper} {rest : List Oper} {o : Oper} {a : Act} {Q : Exit → Act → World → Prop} (hgd : o.guard = none) (s x : Operand) (t tx : TypeId)
  (ho : o.op = .call { callee := .builtin .append, args := #[s, x], argTypes := #[t, tx] })
  (base : Nat) (e : TypeId) (i : TypeInfo) (z : Value) (size bytes : Nat) (ht : P.underlying t = some (.slice e)) (hi : P.info? e = some i) (hz : i.zero = some z)
  (hsize : i.size = size) (hby : i.bytes = bytes) (hzs : z.cells.size = size)
  (v : Value) (n : Nat) (xs : List Value) (hs : a.eval s = v) (hown : w.ownsRow base e size v n xs)
  (xv : Value) (m : Nat) (news : List Value) (hx : a.eval x = xv) (hsrc : Src P size tx xv m news w)
  (h63 : n + m ≤ maxLen) (hbytes : ∀ old, old < n + m → Builtin.nextslicecap (n + m) old * bytes ≤ 281474976710656) (hbase : base ≤ w.heap.size)
  (h : ∀ v' w', w'.ownsRow base e size v' (n + m) (xs ++ news) → w.grownBy w' v.ownBlock → (v'.ownBlock = v.ownBlock ∨ v'.ownBlock = some w.heap.size) → wpList P ops Q rest (a.put o.dst v') w') : wpList P ops Q (o :: rest) a w :=
 wpList_plain hgd fun K hK => by
  obtain ⟨v', w', hr, h2, h3, h4⟩ := run_append_own_at (P := P) w base t tx o.type e i z size bytes ht hi hz hsize hby hzs v n xs hown xv m news hsrc h63 hbytes hbase
  unfold Oper.wp execOp
  simp only [ho, resolve, invoke, builtin, Sem.run_bind, Sem.run_pure, Result.andThen_ok, List.map_toArray, List.map_cons, List.map_nil, hs, hx, hr]
  exact hK _ _ (h v' w' h2 h3 h4)
theorem step_appP {ops : Array Oper} {o : Oper} {a : Act} {K : Act → World → Prop} {Q : Exit → Act → World → Prop} {E : Prop}
  (hwt : Region.wanted o (yielded ops a.tmps) = true) (s x : Operand) (t tx : TypeId) (hop : o.op = .call { callee := .builtin .append, args := #[s, x], argTypes := #[t, tx] })
  (base : Nat) (e : TypeId) (i : TypeInfo) (z : Value) (size bytes : Nat) (ht : P.underlying t = some (.slice e)) (hi : P.info? e = some i) (hz : i.zero = some z)
  (hsize : i.size = size) (hby : i.bytes = bytes) (hzs : z.cells.size = size)
  (v : Value) (n : Nat) (xs : List Value) (hs : a.eval s = v) (hown : w.ownsRow base e size v n xs)
  (xv : Value) (m : Nat) (news : List Value) (hx : a.eval x = xv) (hsrc : Src P size tx xv m news w)
  (h63 : n + m ≤ maxLen) (hbytes : ∀ old, old < n + m → Builtin.nextslicecap (n + m) old * bytes ≤ 281474976710656) (hbase : base ≤ w.heap.size)
  (h : ∀ v' w', w'.ownsRow base e size v' (n + m) (xs ++ news) → w.grownBy w' v.ownBlock → (v'.ownBlock = v.ownBlock ∨ v'.ownBlock = some w.heap.size) → K (a.put o.dst v') w') :
  if Region.wanted o (yielded ops a.tmps) = true then Oper.wp P o a w K Q else E := by
 rw [if_pos hwt]
 obtain ⟨v', w', hr, h2, h3, h4⟩ := run_append_own_at (P := P) w base t tx o.type e i z size bytes ht hi hz hsize hby hzs v n xs hown xv m news hsrc h63 hbytes hbase
 unfold Oper.wp
 simp [execOp, hop, resolve, invoke, builtin, hs, hx, hr, Result.andThen]
 exact h v' w' h2 h3 h4
end
end
end Go.Proofs.YtdgknofpkafppaaGreatDoor
