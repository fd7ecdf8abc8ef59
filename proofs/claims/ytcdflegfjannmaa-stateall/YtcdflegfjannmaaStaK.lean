/- First; law00's State. Written by state/mk_stak.py. -/
import Derived.Test.YtcdflegfjannmaaStaJ
namespace Go.Proofs.Ytcdflegfjannmaa
open Go Go.RowKit

/-- What a new surface has. -/
def sqF : Sq := ⟨false, 0, [], [], false, true, [], false, [[0]], []⟩
theorem rdm_one1 {w : World} {B T : Nat} {z : Int} (h : Bk w B T #[.int .i64 z]) : RdM 1 w (some ⟨B, 0, none⟩) 1 1 [[z]] :=
  ⟨rfl, Nat.le_refl _, by decide, (fun h => by cases h), fun _ => ⟨B, 0, rfl, h.lt, fun j y hy i t ht => by
    match j, hy with
    | 0, hy =>
      cases hy
      match i, ht with
      | 0, ht => cases ht; exact h.cell 0
      | i + 1, ht => simp at ht
    | j + 1, hy => simp at hy⟩, by simp⟩
theorem rdm_two1 {w : World} {B T : Nat} {z t : Int} (h : Bk w B T #[.int .i64 z, .int .i64 t]) : RdM 1 w (some ⟨B, 0, none⟩) 2 2 [[z], [t]] :=
  ⟨rfl, Nat.le_refl _, by decide, (fun h => by cases h), fun _ => ⟨B, 0, rfl, h.lt, fun j y hy i x hx => by
    match j, hy with
    | 0, hy =>
      cases hy
      match i, hx with
      | 0, hx => cases hx; exact h.cell 0
      | i + 1, hx => simp at hx
    | 1, hy =>
      cases hy
      match i, hx with
      | 0, hx => cases hx; exact h.cell 1
      | i + 1, hx => simp at hx
    | j + 2, hy => simp at hy⟩, by simp⟩

set_option maxRecDepth 100000 in
theorem first_any (w : World) : Calls Try.prog 25 #[] w (Rst w sqF) := by
  obtain ⟨r, hr⟩ : ∃ r : Sx, r = { sx0 with all := true, od := ⟨some ⟨w.heap.size + 1, 0, none⟩, 1, 1, [[0]]⟩ } := ⟨_, rfl⟩
  have hk := bk_new (w.alloc (.cells #[.bool r.at_, .int .i64 r.buf, .slice r.dm.a r.dm.n r.dm.c, .slice r.fr.a r.fr.n r.fr.c, .bool r.inp, .bool r.all, .slice r.rg.a r.rg.n r.rg.c, .bool r.ord, .slice r.od.a r.od.n r.od.c, .slice r.pl.a r.pl.n r.pl.c] 26)) #[.int .i64 0] 3
  have hb := Below.on (bel_new w (.cells #[.bool r.at_, .int .i64 r.buf, .slice r.dm.a r.dm.n r.dm.c, .slice r.fr.a r.fr.n r.fr.c, .bool r.inp, .bool r.all, .slice r.rg.a r.rg.n r.rg.c, .bool r.ord, .slice r.od.a r.od.n r.od.c, .slice r.pl.a r.pl.n r.pl.c] 26)) (bel_new (w.alloc (.cells #[.bool r.at_, .int .i64 r.buf, .slice r.dm.a r.dm.n r.dm.c, .slice r.fr.a r.fr.n r.fr.c, .bool r.inp, .bool r.all, .slice r.rg.a r.rg.n r.rg.c, .bool r.ord, .slice r.od.a r.od.n r.od.c, .slice r.pl.a r.pl.n r.pl.c] 26)) (.cells #[.int .i64 0] 3))
  have hz := (bs_new w r).on (bel_new (w.alloc (.cells #[.bool r.at_, .int .i64 r.buf, .slice r.dm.a r.dm.n r.dm.c, .slice r.fr.a r.fr.n r.fr.c, .bool r.inp, .bool r.all, .slice r.rg.a r.rg.n r.rg.c, .bool r.ord, .slice r.od.a r.od.n r.od.c, .slice r.pl.a r.pl.n r.pl.c] 26)) (.cells #[.int .i64 0] 3))
  rw [size_new] at hk
  subst hr
  have HK := hid hk
  have HB := hid hb
  have HZ := hid hz
  clear hk hb hz
  go_enter Try.func25, Try.ntmps25
  go_wp2
  refine bodyPost_ret (results_cell_row rfl _ _ w.heap.size _ _ _ _ rfl HZ.out.bk.obj Try.underlying26 rfl infoSt) rfl ?_
  exact ⟨_, rfl, ⟨RdM.nil _ _, RdM.nil _ _, RdM.nil _ _, rdm_one1 HK.out, RdM.nil _ _⟩, ⟨(fun y e => by cases e), (fun y e => by cases e), (fun y e => by cases e), (fun y e => by cases e; show w.heap.size ≤ w.heap.size + 1; omega), (fun y e => by cases e)⟩, rfl, HB.out⟩

/-- State's own blocks: what it makes, what it answers. -/
structure Mj (w : World) (s : Sx) (u : World) : Prop where
  bs : Bs u w.heap.size s
  bz : Bs u (w.heap.size + 1) sx0
  bel : RowKit.Below w.heap.size w u
theorem Mj.on {w : World} {s : Sx} {u v : World} (h : Mj w s u) (hb : Below u.heap.size u v) : Mj w s v := ⟨h.bs.on hb, h.bz.on hb, Below.on h.bel hb⟩
theorem Mj.drew {w : World} {s : Sx} {u : World} (h : Mj w s u) : Mj w s u.drew := h.on (Below.refl _ _).drew
theorem Mj.lt {w : World} {s : Sx} {u : World} (h : Mj w s u) : w.heap.size + 1 < u.heap.size := h.bz.lt
theorem Mj.st {w : World} {s : Sx} {u : World} (h : Mj w s u) (s' : Sx) (k : Nat) (v : Value) (hs : (#[.bool s.at_, .int .i64 s.buf, .slice s.dm.a s.dm.n s.dm.c, .slice s.fr.a s.fr.n s.fr.c, .bool s.inp, .bool s.all, .slice s.rg.a s.rg.n s.rg.c, .bool s.ord, .slice s.od.a s.od.n s.od.c, .slice s.pl.a s.pl.n s.pl.c] : Array Value).setIfInBounds k v = #[.bool s'.at_, .int .i64 s'.buf, .slice s'.dm.a s'.dm.n s'.dm.c, .slice s'.fr.a s'.fr.n s'.fr.c, .bool s'.inp, .bool s'.all, .slice s'.rg.a s'.rg.n s'.rg.c, .bool s'.ord, .slice s'.od.a s'.od.n s'.od.c, .slice s'.pl.a s'.pl.n s'.pl.c]) : Mj w s' (u.setCell ⟨w.heap.size, k, none⟩ v) :=
  ⟨⟨by have := h.bs.bk.set k v; rw [hs] at this; exact this⟩, h.bz.other (by omega) k v, h.bel.setCell (p := ⟨w.heap.size, k, none⟩) (Nat.le_refl _) v⟩
theorem mj_new (w : World) (x : Sx) : Mj w x ((w.alloc (.cells #[.bool x.at_, .int .i64 x.buf, .slice x.dm.a x.dm.n x.dm.c, .slice x.fr.a x.fr.n x.fr.c, .bool x.inp, .bool x.all, .slice x.rg.a x.rg.n x.rg.c, .bool x.ord, .slice x.od.a x.od.n x.od.c, .slice x.pl.a x.pl.n x.pl.c] 26)).alloc (.cells #[.bool sx0.at_, .int .i64 sx0.buf, .slice sx0.dm.a sx0.dm.n sx0.dm.c, .slice sx0.fr.a sx0.fr.n sx0.fr.c, .bool sx0.inp, .bool sx0.all, .slice sx0.rg.a sx0.rg.n sx0.rg.c, .bool sx0.ord, .slice sx0.od.a sx0.od.n sx0.od.c, .slice sx0.pl.a sx0.pl.n sx0.pl.c] 26)) := by
  obtain ⟨h1, h2, h3⟩ := sbox2 x sx0 (Below.refl _ ((w.alloc (.cells #[.bool x.at_, .int .i64 x.buf, .slice x.dm.a x.dm.n x.dm.c, .slice x.fr.a x.fr.n x.fr.c, .bool x.inp, .bool x.all, .slice x.rg.a x.rg.n x.rg.c, .bool x.ord, .slice x.od.a x.od.n x.od.c, .slice x.pl.a x.pl.n x.pl.c] 26)).alloc (.cells #[.bool sx0.at_, .int .i64 sx0.buf, .slice sx0.dm.a sx0.dm.n sx0.dm.c, .slice sx0.fr.a sx0.fr.n sx0.fr.c, .bool sx0.inp, .bool sx0.all, .slice sx0.rg.a sx0.rg.n sx0.rg.c, .bool sx0.ord, .slice sx0.od.a sx0.od.n sx0.od.c, .slice sx0.pl.a sx0.pl.n sx0.pl.c] 26)))
  exact ⟨h1, h2, h3⟩
theorem owm_sl {m e : Nat} {F : FuncId} {args : Array Value} {u : World} {l : List (List Int)} {p : Nat} (hp : p < u.heap.size) (h : Calls Try.prog F args u fun e' w' => ∃ v, e' = .returned v ∧ OwM m e u w' v l) :
    Calls Try.prog F args u fun e' w' => ∃ s : Sl, e' = .returned (.slice s.a s.n s.c) ∧ s.l = l ∧ RdF m w' p s ∧ Below u.heap.size u w' :=
  h.mono fun e' w' ⟨v, he, hO⟩ => by
    obtain ⟨s, hv, hl, hF⟩ := hO.rdf hp
    exact ⟨s, by rw [he, hv], hl, hF, hO.bel⟩

set_option maxRecDepth 100000 in
set_option maxHeartbeats 4000000 in
theorem lstate_any (x : Sx) (w : World) (ok : x.Ok w) (lx : x.Len 1000) : Calls Try.prog 9 #[.agg #[.bool x.at_, .int .i64 x.buf, .slice x.dm.a x.dm.n x.dm.c, .slice x.fr.a x.fr.n x.fr.c, .bool x.inp, .bool x.all, .slice x.rg.a x.rg.n x.rg.c, .bool x.ord, .slice x.od.a x.od.n x.od.c, .slice x.pl.a x.pl.n x.pl.c]] w (Rst w x.q) := by
  obtain ⟨i0, hi, hn0, hn1, hn2⟩ := infoMP infoM3
  have HX := hid ok
  obtain ⟨l2, l3, l6, l8, l9⟩ := lx
  have HN : Hid (x.dm.n ≤ 1000000 ∧ x.fr.n ≤ 1000000 ∧ x.rg.n ≤ 1000000 ∧ x.od.n ≤ 1000000) := by rw [Hid]; omega
  have HMI := hid (mj_new w x)
  clear ok l2 l3 l6 l8
  go_enter Try.func9, Try.ntmps9
  go_upto_region 1 with fail
  go_cut [0] (fun _ wc => ∃ t2 t5 t8 t11 : Sl, Mj w { x with dm := t2, fr := t5, rg := t8, od := t11 } wc ∧ t2.l = x.dm.l ∧ t5.l = x.fr.l ∧ t8.l = x.rg.l ∧ t11.l = x.od.l ∧ RdF 4 wc (w.heap.size + 1) t2 ∧ RdF 1 wc (w.heap.size + 1) t5 ∧ RdF 4 wc (w.heap.size + 1) t8 ∧ RdF 1 wc (w.heap.size + 1) t11)
  case first =>
    refine wp_region_gate_drew (g := 13) (S := Mj w x) (by kernel_rfl) ?hh (fun hHeld => ?_)
    case hh => exact (HMI.out.drew)
    generalize World.drew _ = W0 at hHeld ⊢
    try dsimp only at hHeld
    refine wpAnyG_take (i := 0) (v := ?_) rfl (by kernel_rfl) (by kernel_rfl) (by kernel_rfl) (by kernel_rfl) (fun _ _ _ h => h) (Or.inl ⟨by kernel_rfl, ?hy0⟩) (by assumption) ?_
    case hy0 => (intro w hSw; (try dsimp only at hSw); obtain ⟨za, zb, zc, zd, ze, zf, zg, zh, zi, zj⟩ := hSw.bs.all; go_simp; try with_reducible rfl)
    try simp only [Act.put, List.getElem_toArray, List.getElem_cons_zero, List.setIfInBounds_toArray, List.set_cons_zero, List.set_cons_succ]
    refine wpAnyG_take (i := 1) (v := ?_) rfl (by kernel_rfl) (by kernel_rfl) (by kernel_rfl) (by kernel_rfl) (fun _ _ _ h => h) (Or.inl ⟨by kernel_rfl, ?hy1⟩) (by assumption) ?_
    case hy1 => (intro w hSw; (try dsimp only at hSw); obtain ⟨za, zb, zc, zd, ze, zf, zg, zh, zi, zj⟩ := hSw.bs.all; go_simp; try with_reducible rfl)
    try simp only [Act.put, List.getElem_toArray, List.getElem_cons_zero, List.getElem_cons_succ, List.setIfInBounds_toArray, List.set_cons_zero, List.set_cons_succ]
    refine wpAnyG_take (i := 3) (v := ?_) rfl (by kernel_rfl) (by kernel_rfl) (by kernel_rfl) (by kernel_rfl) (fun _ _ _ h => h) (Or.inl ⟨by kernel_rfl, ?hy3⟩) (by assumption) ?_
    case hy3 => (intro w hSw; (try dsimp only at hSw); obtain ⟨za, zb, zc, zd, ze, zf, zg, zh, zi, zj⟩ := hSw.bs.all; go_simp; try with_reducible rfl)
    try simp only [Act.put, List.getElem_toArray, List.getElem_cons_zero, List.getElem_cons_succ, List.setIfInBounds_toArray, List.set_cons_zero, List.set_cons_succ]
    refine wpAnyG_take (i := 4) (v := ?_) rfl (by kernel_rfl) (by kernel_rfl) (by kernel_rfl) (by kernel_rfl) (fun _ _ _ h => h) (Or.inl ⟨by kernel_rfl, ?hy4⟩) (by assumption) ?_
    case hy4 => (intro w hSw; (try dsimp only at hSw); obtain ⟨za, zb, zc, zd, ze, zf, zg, zh, zi, zj⟩ := hSw.bs.all; go_simp; try with_reducible rfl)
    try simp only [Act.put, List.getElem_toArray, List.getElem_cons_zero, List.getElem_cons_succ, List.setIfInBounds_toArray, List.set_cons_zero, List.set_cons_succ]
    refine wpAnyG_take (i := 6) (v := ?_) rfl (by kernel_rfl) (by kernel_rfl) (by kernel_rfl) (by kernel_rfl) (fun _ _ _ h => h) (Or.inl ⟨by kernel_rfl, ?hy6⟩) (by assumption) ?_
    case hy6 => (intro w hSw; (try dsimp only at hSw); obtain ⟨za, zb, zc, zd, ze, zf, zg, zh, zi, zj⟩ := hSw.bs.all; go_simp; try with_reducible rfl)
    try simp only [Act.put, List.getElem_toArray, List.getElem_cons_zero, List.getElem_cons_succ, List.setIfInBounds_toArray, List.set_cons_zero, List.set_cons_succ]
    refine wpAnyG_take (i := 7) (v := ?_) rfl (by kernel_rfl) (by kernel_rfl) (by kernel_rfl) (by kernel_rfl) (fun _ _ _ h => h) (Or.inl ⟨by kernel_rfl, ?hy7⟩) (by assumption) ?_
    case hy7 => (intro w hSw; (try dsimp only at hSw); obtain ⟨za, zb, zc, zd, ze, zf, zg, zh, zi, zj⟩ := hSw.bs.all; go_simp; try with_reducible rfl)
    try simp only [Act.put, List.getElem_toArray, List.getElem_cons_zero, List.getElem_cons_succ, List.setIfInBounds_toArray, List.set_cons_zero, List.set_cons_succ]
    refine wpAnyG_take (i := 9) (v := ?_) rfl (by kernel_rfl) (by kernel_rfl) (by kernel_rfl) (by kernel_rfl) (fun _ _ _ h => h) (Or.inl ⟨by kernel_rfl, ?hy9⟩) (by assumption) ?_
    case hy9 => (intro w hSw; (try dsimp only at hSw); obtain ⟨za, zb, zc, zd, ze, zf, zg, zh, zi, zj⟩ := hSw.bs.all; go_simp; try with_reducible rfl)
    try simp only [Act.put, List.getElem_toArray, List.getElem_cons_zero, List.getElem_cons_succ, List.setIfInBounds_toArray, List.set_cons_zero, List.set_cons_succ]
    refine wpAnyG_take (i := 10) (v := ?_) rfl (by kernel_rfl) (by kernel_rfl) (by kernel_rfl) (by kernel_rfl) (fun _ _ _ h => h) (Or.inl ⟨by kernel_rfl, ?hy10⟩) (by assumption) ?_
    case hy10 => (intro w hSw; (try dsimp only at hSw); obtain ⟨za, zb, zc, zd, ze, zf, zg, zh, zi, zj⟩ := hSw.bs.all; go_simp; try with_reducible rfl)
    try simp only [Act.put, List.getElem_toArray, List.getElem_cons_zero, List.getElem_cons_succ, List.setIfInBounds_toArray, List.set_cons_zero, List.set_cons_succ]
    refine wpAnyG_ready (rs := [2]) (by kernel_rfl) (by simp) ?_
    refine AllReadyG.cons rfl (fun K hK => ?_) AllReadyG.nil
    have hlt := hHeld.lt
    go_simp
    go_wp2_with fail
    refine (owm_sl hlt (lrects_any _ _ _ _ _ (HX.out.dm.on hHeld.bel) HN.out.1)).mono ?_
    rintro e W2 ⟨t2, rfl, hl2, hF2, hb⟩
    have R2 := hid hF2
    have E2 := hid hl2
    clear hF2 hl2
    
    have hM := hHeld.on hb
    refine hK.out _ _ hM (fun _ => ?_)
    clear hK K hHeld hlt hb
    have hHeld := hM
    clear hM
    try simp only [Act.put, List.getElem_toArray, List.getElem_cons_zero, List.getElem_cons_succ, List.setIfInBounds_toArray, List.set_cons_zero, List.set_cons_succ]
    refine wpAnyG_take (i := 12) (v := ?_) rfl (by kernel_rfl) (by kernel_rfl) (by kernel_rfl) (by kernel_rfl) (fun _ _ _ h => h) (Or.inl ⟨by kernel_rfl, ?hy12⟩) (by assumption) ?_
    case hy12 => (intro w hSw; (try dsimp only at hSw); obtain ⟨za, zb, zc, zd, ze, zf, zg, zh, zi, zj⟩ := hSw.bs.all; go_simp; try with_reducible rfl)
    try simp only [Act.put, List.getElem_toArray, List.getElem_cons_zero, List.getElem_cons_succ, List.setIfInBounds_toArray, List.set_cons_zero, List.set_cons_succ]
    refine wpAnyG_ready (rs := [5]) (by kernel_rfl) (by simp) ?_
    refine AllReadyG.cons rfl (fun K hK => ?_) AllReadyG.nil
    have hlt := hHeld.lt
    go_simp
    go_wp2_with fail
    refine (owm_sl hlt (lints_any _ _ _ _ _ (HX.out.fr.on hHeld.bel) HN.out.2.1)).mono ?_
    rintro e W5 ⟨t5, rfl, hl5, hF5, hb⟩
    have R5 := hid hF5
    have E5 := hid hl5
    clear hF5 hl5
    try replace R2 := hid (R2.out.on hb)
    have hM := hHeld.on hb
    refine hK.out _ _ hM (fun _ => ?_)
    clear hK K hHeld hlt hb
    have hHeld := hM
    clear hM
    try simp only [Act.put, List.getElem_toArray, List.getElem_cons_zero, List.getElem_cons_succ, List.setIfInBounds_toArray, List.set_cons_zero, List.set_cons_succ]
    refine wpAnyG_ready (rs := [8]) (by kernel_rfl) (by simp) ?_
    refine AllReadyG.cons rfl (fun K hK => ?_) AllReadyG.nil
    have hlt := hHeld.lt
    go_simp
    go_wp2_with fail
    refine (owm_sl hlt (lrects_any _ _ _ _ _ (HX.out.rg.on hHeld.bel) HN.out.2.2.1)).mono ?_
    rintro e W8 ⟨t8, rfl, hl8, hF8, hb⟩
    have R8 := hid hF8
    have E8 := hid hl8
    clear hF8 hl8
    try replace R2 := hid (R2.out.on hb)
    try replace R5 := hid (R5.out.on hb)
    have hM := hHeld.on hb
    refine hK.out _ _ hM (fun _ => ?_)
    clear hK K hHeld hlt hb
    have hHeld := hM
    clear hM
    try simp only [Act.put, List.getElem_toArray, List.getElem_cons_zero, List.getElem_cons_succ, List.setIfInBounds_toArray, List.set_cons_zero, List.set_cons_succ]
    refine wpAnyG_ready (rs := [11]) (by kernel_rfl) (by simp) ?_
    refine AllReadyG.cons rfl (fun K hK => ?_) AllReadyG.nil
    have hlt := hHeld.lt
    go_simp
    go_wp2_with fail
    refine (owm_sl hlt (lints_any _ _ _ _ _ (HX.out.od.on hHeld.bel) HN.out.2.2.2)).mono ?_
    rintro e W11 ⟨t11, rfl, hl11, hF11, hb⟩
    have R11 := hid hF11
    have E11 := hid hl11
    clear hF11 hl11
    try replace R2 := hid (R2.out.on hb)
    try replace R5 := hid (R5.out.on hb)
    try replace R8 := hid (R8.out.on hb)
    have hM := hHeld.on hb
    refine hK.out _ _ hM (fun _ => ?_)
    clear hK K hHeld hlt hb
    have hHeld := hM
    clear hM
    try simp only [Act.put, List.getElem_toArray, List.getElem_cons_zero, List.getElem_cons_succ, List.setIfInBounds_toArray, List.set_cons_zero, List.set_cons_succ]
    have hG := hHeld
    clear hHeld
    have hHeld : True := trivial
    refine wpAnyG_gateOp rfl (by kernel_rfl) (fun K hK => ?_)
    obtain ⟨za, zb, zc, zd, ze, zf, zg, zh, zi, zj⟩ := hG.bs.all
    have fz := hG.bs.fz
    have hG2 := hG.st ({ x with dm := t2 }) 2 (.slice t2.a t2.n t2.c) rfl
    try replace R2 := hid (R2.out.st (q := w.heap.size) (Nat.le_succ _) 2 (.slice t2.a t2.n t2.c))
    try replace R5 := hid (R5.out.st (q := w.heap.size) (Nat.le_succ _) 2 (.slice t2.a t2.n t2.c))
    try replace R8 := hid (R8.out.st (q := w.heap.size) (Nat.le_succ _) 2 (.slice t2.a t2.n t2.c))
    try replace R11 := hid (R11.out.st (q := w.heap.size) (Nat.le_succ _) 2 (.slice t2.a t2.n t2.c))
    go_simp
    refine hK.out _ _ trivial (fun _ => ?_)
    clear hK K hG fz za zb zc zd ze zf zg zh zi zj
    generalize W11.setCell ⟨w.heap.size, 2, none⟩ (.slice t2.a t2.n t2.c) = W13 at *
    have hG := hG2
    clear hG2
    try simp only [Act.put, List.getElem_toArray, List.getElem_cons_zero, List.getElem_cons_succ, List.setIfInBounds_toArray, List.set_cons_zero, List.set_cons_succ]
    refine wpAnyH_take (i := 14) (v := ?_) rfl (by kernel_rfl) (by kernel_rfl) (by kernel_rfl) (fun _ _ _ h => h) (Or.inl ⟨by kernel_rfl, ?hy14⟩) (by assumption) ?_
    case hy14 => (intro w hSw; (try dsimp only at hSw); go_simp; try with_reducible rfl)
    try simp only [Act.put, List.getElem_toArray, List.getElem_cons_zero, List.getElem_cons_succ, List.setIfInBounds_toArray, List.set_cons_zero, List.set_cons_succ]
    refine wpAnyH_ready (rs := [15]) (by kernel_rfl) (by simp) ?_
    refine AllReadyH.cons rfl (fun K hK => ?_) AllReadyH.nil
    obtain ⟨za, zb, zc, zd, ze, zf, zg, zh, zi, zj⟩ := hG.bs.all
    have fz := hG.bs.fz
    have hG2 := hG.st ({ x with dm := t2, fr := t5 }) 3 (.slice t5.a t5.n t5.c) rfl
    try replace R2 := hid (R2.out.st (q := w.heap.size) (Nat.le_succ _) 3 (.slice t5.a t5.n t5.c))
    try replace R5 := hid (R5.out.st (q := w.heap.size) (Nat.le_succ _) 3 (.slice t5.a t5.n t5.c))
    try replace R8 := hid (R8.out.st (q := w.heap.size) (Nat.le_succ _) 3 (.slice t5.a t5.n t5.c))
    try replace R11 := hid (R11.out.st (q := w.heap.size) (Nat.le_succ _) 3 (.slice t5.a t5.n t5.c))
    go_simp
    refine hK.out _ _ trivial (fun _ => ?_)
    clear hK K hG fz za zb zc zd ze zf zg zh zi zj
    generalize W13.setCell ⟨w.heap.size, 3, none⟩ (.slice t5.a t5.n t5.c) = W15 at *
    have hG := hG2
    clear hG2
    try simp only [Act.put, List.getElem_toArray, List.getElem_cons_zero, List.getElem_cons_succ, List.setIfInBounds_toArray, List.set_cons_zero, List.set_cons_succ]
    refine wpAnyH_take (i := 16) (v := ?_) rfl (by kernel_rfl) (by kernel_rfl) (by kernel_rfl) (fun _ _ _ h => h) (Or.inl ⟨by kernel_rfl, ?hy16⟩) (by assumption) ?_
    case hy16 => (intro w hSw; (try dsimp only at hSw); go_simp; try with_reducible rfl)
    try simp only [Act.put, List.getElem_toArray, List.getElem_cons_zero, List.getElem_cons_succ, List.setIfInBounds_toArray, List.set_cons_zero, List.set_cons_succ]
    refine wpAnyH_ready (rs := [17]) (by kernel_rfl) (by simp) ?_
    refine AllReadyH.cons rfl (fun K hK => ?_) AllReadyH.nil
    obtain ⟨za, zb, zc, zd, ze, zf, zg, zh, zi, zj⟩ := hG.bs.all
    have fz := hG.bs.fz
    have hG2 := hG.st ({ x with dm := t2, fr := t5, rg := t8 }) 6 (.slice t8.a t8.n t8.c) rfl
    try replace R2 := hid (R2.out.st (q := w.heap.size) (Nat.le_succ _) 6 (.slice t8.a t8.n t8.c))
    try replace R5 := hid (R5.out.st (q := w.heap.size) (Nat.le_succ _) 6 (.slice t8.a t8.n t8.c))
    try replace R8 := hid (R8.out.st (q := w.heap.size) (Nat.le_succ _) 6 (.slice t8.a t8.n t8.c))
    try replace R11 := hid (R11.out.st (q := w.heap.size) (Nat.le_succ _) 6 (.slice t8.a t8.n t8.c))
    go_simp
    refine hK.out _ _ trivial (fun _ => ?_)
    clear hK K hG fz za zb zc zd ze zf zg zh zi zj
    generalize W15.setCell ⟨w.heap.size, 6, none⟩ (.slice t8.a t8.n t8.c) = W17 at *
    have hG := hG2
    clear hG2
    try simp only [Act.put, List.getElem_toArray, List.getElem_cons_zero, List.getElem_cons_succ, List.setIfInBounds_toArray, List.set_cons_zero, List.set_cons_succ]
    refine wpAnyH_take (i := 18) (v := ?_) rfl (by kernel_rfl) (by kernel_rfl) (by kernel_rfl) (fun _ _ _ h => h) (Or.inl ⟨by kernel_rfl, ?hy18⟩) (by assumption) ?_
    case hy18 => (intro w hSw; (try dsimp only at hSw); go_simp; try with_reducible rfl)
    try simp only [Act.put, List.getElem_toArray, List.getElem_cons_zero, List.getElem_cons_succ, List.setIfInBounds_toArray, List.set_cons_zero, List.set_cons_succ]
    refine wpAnyH_ready (rs := [19]) (by kernel_rfl) (by simp) ?_
    refine AllReadyH.cons rfl (fun K hK => ?_) AllReadyH.nil
    obtain ⟨za, zb, zc, zd, ze, zf, zg, zh, zi, zj⟩ := hG.bs.all
    have fz := hG.bs.fz
    have hG2 := hG.st ({ x with dm := t2, fr := t5, rg := t8, od := t11 }) 8 (.slice t11.a t11.n t11.c) rfl
    try replace R2 := hid (R2.out.st (q := w.heap.size) (Nat.le_succ _) 8 (.slice t11.a t11.n t11.c))
    try replace R5 := hid (R5.out.st (q := w.heap.size) (Nat.le_succ _) 8 (.slice t11.a t11.n t11.c))
    try replace R8 := hid (R8.out.st (q := w.heap.size) (Nat.le_succ _) 8 (.slice t11.a t11.n t11.c))
    try replace R11 := hid (R11.out.st (q := w.heap.size) (Nat.le_succ _) 8 (.slice t11.a t11.n t11.c))
    go_simp
    refine hK.out _ _ trivial (fun _ => ?_)
    clear hK K hG fz za zb zc zd ze zf zg zh zi zj
    generalize W17.setCell ⟨w.heap.size, 8, none⟩ (.slice t11.a t11.n t11.c) = W19 at *
    have hG := hG2
    clear hG2
    try simp only [Act.put, List.getElem_toArray, List.getElem_cons_zero, List.getElem_cons_succ, List.setIfInBounds_toArray, List.set_cons_zero, List.set_cons_succ]
    refine wpAnyH_done (by kernel_rfl) ?_ _
    go_wp2_with fail
    go_meet
    exact ⟨t2, t5, t8, t11, hG, E2.out, E5.out, E8.out, E11.out, R2.out, R5.out, R8.out, R11.out⟩
  obtain ⟨t2, t5, t8, t11, hM, e2, e5, e8, e11, q2, q5, q8, q11⟩ := hcut
  obtain ⟨s, hs⟩ : ∃ s : Sx, s = { x with dm := t2, fr := t5, rg := t8, od := t11 } := ⟨_, rfl⟩
  rw [← hs] at hM
  have hpl : s.pl = x.pl := by rw [hs]
  have HS := hid hs
  have HE := hid (And.intro e2 (And.intro e5 (And.intro e8 e11)))
  have HM := hid hM
  have hsrc := HX.out.pl.on hM.bel
  rw [← hpl] at hsrc
  have HSR := hid (hsrc.src (P := Try.prog) (t := 24) (e := 28) Try.underlying24)
  have HO := hid (World.ownsRow_nil wc wc.heap.size 28 3)
  have l10 : s.pl.n ≤ 1000 := by rw [hpl]; exact l9
  have HPL := hid hpl
  have HLN := hid hsrc.len
  have HSZ := hid hsrc.size
  have P2 := hid q2
  have P5 := hid q5
  have P8 := hid q8
  have P11 := hid q11
  clear hM hs e2 e5 e8 e11 q2 q5 q8 q11 hpl hsrc
  go_upto_region 2 with fail
  go_cut [] (fun wc => ∃ t9 : Sl, Mj w { s with pl := t9 } wc ∧ t9.l = x.pl.l ∧ RdF 3 wc (w.heap.size + 1) t9 ∧ RdF 4 wc (w.heap.size + 1) t2 ∧ RdF 1 wc (w.heap.size + 1) t5 ∧ RdF 4 wc (w.heap.size + 1) t8 ∧ RdF 1 wc (w.heap.size + 1) t11)
  case first =>
    obtain ⟨za, zb, zc, zd, ze, zf, zg, zh, zi, zj⟩ := HM.out.bs.all
    have hlt := HM.out.lt
    have HX2 : Hid (∀ v u, u.ownsRow wc.heap.size 28 3 v (0 + s.pl.n) ([] ++ mcs s.pl.l) → wc.grownBy u (Value.ownBlock (.slice none 0 0)) → ∃ t9 : Sl, v = .slice t9.a t9.n t9.c ∧ t9.l = x.pl.l ∧ RdF 3 u (w.heap.size + 1) t9 ∧ RowKit.Below wc.heap.size wc u) := fun v u o g => by
      rw [Nat.zero_add, List.nil_append] at o
      have hO : OwM 3 28 wc u v s.pl.l := ⟨by rw [HLN.out]; exact o, (kp_of_grown g).below (Nat.le_refl _) (fun k hk => by cases hk), HSZ.out⟩
      obtain ⟨t9, h1, h2, h3⟩ := hO.rdf HM.out.lt
      exact ⟨t9, h1, by rw [h2, HPL.out], h3, hO.bel⟩
    have HC : Hid (∀ u, RowKit.Below wc.heap.size wc u → Mj w s u) := fun u hb => HM.out.on hb
    go_wp2_with (at_builtin; refine wpList_append_own_src _ rfl (.const (.slice none 0 0)) (.tmp 20) 24 24 rfl wc.heap.size 28 i0 (.agg #[.int .i64 0, .int .i64 0, .int .i64 0]) 3 24 Try.underlying24 hi hn0 hn1 hn2 rfl _ _ _ rfl HO.out _ _ _ rfl HSR.out (by simp only [maxLen]; omega) (fitsM (by omega) (by decide)) (Nat.le_refl _) ?_; intro v3 w3 o3 g3; obtain ⟨t9, rfl, hl9, hF9, hb9⟩ := HX2.out v3 w3 o3 g3; have hM9 := HC.out w3 hb9; obtain ⟨xa, xb, xc, xd, xe, xf, xg, xh, xi, xj⟩ := hM9.bs.all; have fz := hM9.bs.fz; have HM9 := hid hM9; have HL9 := hid hl9; have HF9 := hid hF9; have HB9 := hid hb9; clear o3 g3 hM9 hl9 hF9 hb9)
    go_meet
    exact ⟨t9, HM9.out.st { s with pl := t9 } 9 (.slice t9.a t9.n t9.c) rfl, HL9.out, HF9.out.st (Nat.le_succ _) 9 _, (P2.out.on HB9.out).st (Nat.le_succ _) 9 _, (P5.out.on HB9.out).st (Nat.le_succ _) 9 _, (P8.out.on HB9.out).st (Nat.le_succ _) 9 _, (P11.out.on HB9.out).st (Nat.le_succ _) 9 _⟩
  obtain ⟨t9, hM, e9, q9, q2, q5, q8, q11⟩ := hcut
  obtain ⟨r, hr⟩ : ∃ s2 : Sx, s2 = { s with pl := t9 } := ⟨_, rfl⟩
  rw [← hr] at hM
  have HR := hid hr
  have E9 := hid e9
  obtain ⟨za, zb, zc, zd, ze, zf, zg, zh, zi, zj⟩ := hM.bs.all
  obtain ⟨ra, rb, rc, rd, re, rf, rg, rh, ri, rj⟩ := hM.bz.all
  have fz := hM.bz.fz
  have HZ := hid (hM.bz.stz r)
  have HB := hid (below_stz hM.bel (show w.heap.size ≤ w.heap.size + 1 by omega) r)
  have U9 := hid (q9.stz (q := w.heap.size + 1) (Nat.le_refl _) r)
  have U2 := hid (q2.stz (q := w.heap.size + 1) (Nat.le_refl _) r)
  have U5 := hid (q5.stz (q := w.heap.size + 1) (Nat.le_refl _) r)
  have U8 := hid (q8.stz (q := w.heap.size + 1) (Nat.le_refl _) r)
  have U11 := hid (q11.stz (q := w.heap.size + 1) (Nat.le_refl _) r)
  clear hM hr e9 q9 q2 q5 q8 q11 HO HSR P2 P5 P8 P11 HM
  go_wp2
  refine bodyPost_ret (results_cell_row rfl _ _ (w.heap.size + 1) _ _ _ _ rfl HZ.out.bk.obj Try.underlying26 rfl infoSt) rfl ?_
  refine ⟨r, rfl, ?_, ?_, ?_, HB.out⟩
  · rw [HR.out, HS.out]
    rw [HR.out, HS.out] at U2 U5 U8 U11 U9
    exact ⟨U2.out.rd, U5.out.rd, U8.out.rd, U11.out.rd, U9.out.rd⟩
  · rw [HR.out, HS.out]
    exact ⟨fun y e => by have := U2.out.far y e; omega, fun y e => by have := U5.out.far y e; omega, fun y e => by have := U8.out.far y e; omega, fun y e => by have := U11.out.far y e; omega, fun y e => by have := U9.out.far y e; omega⟩
  · obtain ⟨e2, e5, e8, e11⟩ := HE.out
    rw [HR.out]
    simp only [Sx.q, E9.out]
    rw [HS.out]
    simp only [e2, e5, e8, e11]
end Go.Proofs.Ytcdflegfjannmaa
