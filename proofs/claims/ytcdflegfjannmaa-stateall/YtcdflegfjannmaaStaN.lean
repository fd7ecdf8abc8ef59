/- The document's Apply; states among others in memory. -/
import Derived.Test.YtcdflegfjannmaaStaM
namespace Go.Proofs.Ytcdflegfjannmaa
open Go Go.RowKit

set_option maxRecDepth 100000 in
set_option maxHeartbeats 4000000 in
theorem rapply_any (x y : Sx) (w : World) (okx : x.Ok w) (oky : y.Ok w) (lx : x.Len 1000) (ly : y.Len 1000) : Calls Try.prog 16 #[.agg #[.bool x.at_, .int .i64 x.buf, .slice x.dm.a x.dm.n x.dm.c, .slice x.fr.a x.fr.n x.fr.c, .bool x.inp, .bool x.all, .slice x.rg.a x.rg.n x.rg.c, .bool x.ord, .slice x.od.a x.od.n x.od.c, .slice x.pl.a x.pl.n x.pl.c], .agg #[.bool y.at_, .int .i64 y.buf, .slice y.dm.a y.dm.n y.dm.c, .slice y.fr.a y.fr.n y.fr.c, .bool y.inp, .bool y.all, .slice y.rg.a y.rg.n y.rg.c, .bool y.ord, .slice y.od.a y.od.n y.od.c, .slice y.pl.a y.pl.n y.pl.c]] w (Rst w (apl x.q y.q)) := by
  have hb3 : Below w.heap.size w (((w.alloc (.cells #[.bool x.at_, .int .i64 x.buf, .slice x.dm.a x.dm.n x.dm.c, .slice x.fr.a x.fr.n x.fr.c, .bool x.inp, .bool x.all, .slice x.rg.a x.rg.n x.rg.c, .bool x.ord, .slice x.od.a x.od.n x.od.c, .slice x.pl.a x.pl.n x.pl.c] 26)).alloc (.cells #[.bool y.at_, .int .i64 y.buf, .slice y.dm.a y.dm.n y.dm.c, .slice y.fr.a y.fr.n y.fr.c, .bool y.inp, .bool y.all, .slice y.rg.a y.rg.n y.rg.c, .bool y.ord, .slice y.od.a y.od.n y.od.c, .slice y.pl.a y.pl.n y.pl.c] 26)).alloc (.cells #[.bool sx0.at_, .int .i64 sx0.buf, .slice sx0.dm.a sx0.dm.n sx0.dm.c, .slice sx0.fr.a sx0.fr.n sx0.fr.c, .bool sx0.inp, .bool sx0.all, .slice sx0.rg.a sx0.rg.n sx0.rg.c, .bool sx0.ord, .slice sx0.od.a sx0.od.n sx0.od.c, .slice sx0.pl.a sx0.pl.n sx0.pl.c] 26)) := Below.on (Below.on (bel_new _ _) (bel_new _ _)) (bel_new _ _)
  have CM := hid (rmerge_any x y _ (okx.on hb3) (oky.on hb3) lx ly)
  have hz := bs_new ((w.alloc (.cells #[.bool x.at_, .int .i64 x.buf, .slice x.dm.a x.dm.n x.dm.c, .slice x.fr.a x.fr.n x.fr.c, .bool x.inp, .bool x.all, .slice x.rg.a x.rg.n x.rg.c, .bool x.ord, .slice x.od.a x.od.n x.od.c, .slice x.pl.a x.pl.n x.pl.c] 26)).alloc (.cells #[.bool y.at_, .int .i64 y.buf, .slice y.dm.a y.dm.n y.dm.c, .slice y.fr.a y.fr.n y.fr.c, .bool y.inp, .bool y.all, .slice y.rg.a y.rg.n y.rg.c, .bool y.ord, .slice y.od.a y.od.n y.od.c, .slice y.pl.a y.pl.n y.pl.c] 26)) sx0
  simp only [size_new] at hz
  have HZ := hid hz
  have HB := hid hb3
  clear okx oky lx ly hb3 hz
  go_enter Try.func16, Try.ntmps16
  go_wp2_with fail
  refine CM.out.mono ?_
  rintro e w1 ⟨r, rfl, okr, hnr, hq, hb⟩
  have HR := hid okr
  have HQ := hid hq
  simp only [size_new] at hnr
  have HZ1 := hid (HZ.out.on hb)
  have HN := hid hnr.end_
  have HB1 := hid (Below.on HB.out hb)
  have hlt := HZ1.out.lt
  clear okr hnr hq hb CM HB HZ
  obtain ⟨ra, rb, rc, rd, re, rf, rg, rh, ri, rj⟩ := HZ1.out.all
  have fz := HZ1.out.fz
  go_wp2
  have hZ := (HZ1.out.stz r.end_).on (bel_new _ (.cells #[.bool false, .int .i64 r.buf, .slice none 0 0, .slice r.fr.a r.fr.n r.fr.c, .bool false, .bool r.all, .slice r.rg.a r.rg.n r.rg.c, .bool false, .slice r.od.a r.od.n r.od.c, .slice r.pl.a r.pl.n r.pl.c] 26))
  refine bodyPost_ret (results_cell_row rfl _ _ (w.heap.size + 1 + 1) _ _ _ _ rfl hZ.bk.obj Try.underlying26 rfl infoSt) rfl ?_
  refine ⟨r.end_, rfl, (HR.out.end_.stz HN.out (show w.heap.size + 1 + 1 < w.heap.size + 1 + 1 + 1 by omega) r.end_).on (bel_new _ _), HN.out.low (by omega), ?_, Below.on (below_stz HB1.out (show w.heap.size ≤ w.heap.size + 1 + 1 by omega) r.end_) (bel_new _ _)⟩
  have h := HQ.out
  rw [apl, ← h]
  rfl

/-- No row of it lies in the block P. -/
structure Sx.Off (x : Sx) (P : Nat) : Prop where
  dm : ∀ y, x.dm.a = some y → 0 < x.dm.n → y.block ≠ P
  fr : ∀ y, x.fr.a = some y → 0 < x.fr.n → y.block ≠ P
  rg : ∀ y, x.rg.a = some y → 0 < x.rg.n → y.block ≠ P
  od : ∀ y, x.od.a = some y → 0 < x.od.n → y.block ≠ P
  pl : ∀ y, x.pl.a = some y → 0 < x.pl.n → y.block ≠ P
theorem rdm_off {m : Nat} {u : World} {s : Sl} {P : Nat} (h : RdM m u s.a s.n s.c s.l) (hP : u.heap.size ≤ P) : ∀ y, s.a = some y → 0 < s.n → y.block ≠ P := fun y hy hn => by
  obtain ⟨b, off, e, hlt, _⟩ := h.pl hn
  rw [hy] at e
  cases e
  show b ≠ P
  omega
theorem off_old {x : Sx} {u : World} {P : Nat} (h : x.Ok u) (hP : u.heap.size ≤ P) : x.Off P := ⟨rdm_off h.dm hP, rdm_off h.fr hP, rdm_off h.rg hP, rdm_off h.od hP, rdm_off h.pl hP⟩
theorem off_new {x : Sx} {B P : Nat} (h : x.New B) (hP : P < B) : x.Off P := ⟨fun y e _ => by have := h.dm y e; omega, fun y e _ => by have := h.fr y e; omega, fun y e _ => by have := h.rg y e; omega, fun y e _ => by have := h.od y e; omega, fun y e _ => by have := h.pl y e; omega⟩
theorem kp_stz (u : World) (q : Nat) (r : Sx) : Kp [q] u (stz u q r) := (((((((((((Kp.refl [q] u).set ⟨q, 0, none⟩ (by simp) _).set ⟨q, 1, none⟩ (by simp) _).set ⟨q, 2, none⟩ (by simp) _).set ⟨q, 3, none⟩ (by simp) _).set ⟨q, 4, none⟩ (by simp) _).set ⟨q, 5, none⟩ (by simp) _).set ⟨q, 6, none⟩ (by simp) _).set ⟨q, 7, none⟩ (by simp) _).set ⟨q, 8, none⟩ (by simp) _).set ⟨q, 9, none⟩ (by simp) _)
theorem Sx.Ok.kpo {x : Sx} {u v : World} {P : Nat} (h : x.Ok u) (ho : x.Off P) (hk : Kp [P] u v) : x.Ok v :=
  ⟨h.dm.kp hk (fun y e n hm => ho.dm y e n (by simpa using hm)), h.fr.kp hk (fun y e n hm => ho.fr y e n (by simpa using hm)), h.rg.kp hk (fun y e n hm => ho.rg y e n (by simpa using hm)), h.od.kp hk (fun y e n hm => ho.od y e n (by simpa using hm)), h.pl.kp hk (fun y e n hm => ho.pl y e n (by simpa using hm))⟩

/-- States in blocks, and others that are only read. -/
structure Ch (w : World) (L : List (Nat × Sx)) (u : World) : Prop where
  res : ∀ p ∈ L, Bs u p.1 p.2 ∧ p.2.Ok u
  bel : RowKit.Below w.heap.size w u
theorem Ch.on {w : World} {L : List (Nat × Sx)} {u v : World} (h : Ch w L u) (hb : Below u.heap.size u v) : Ch w L v := ⟨fun p hp => ⟨(h.res p hp).1.on hb, (h.res p hp).2.on hb⟩, Below.on h.bel hb⟩
theorem Ch.drew {w : World} {L : List (Nat × Sx)} {u : World} (h : Ch w L u) : Ch w L u.drew := h.on (Below.refl _ _).drew
/-- Another one, written into a block that was not there in u0. -/
theorem Ch.push {w : World} {L : List (Nat × Sx)} {u0 u : World} (h0 : Ch w L u0) (h : Ch w L u) {P : Nat} (hP : u0.heap.size ≤ P) {z r : Sx} (hz : Bs u P z) (hr : r.Ok u) (ho : r.Off P) : Ch w ((P, r) :: L) (stz u P r) := by
  have hw := h0.bel.size
  refine ⟨fun p hp => ?_, below_stz h.bel (by omega) r⟩
  rcases List.mem_cons.1 hp with rfl | hp
  · exact ⟨hz.stz r, hr.kpo ho (kp_stz u P r)⟩
  · have hl := (h0.res p hp).1.lt
    exact ⟨bs_other_stz (h.res p hp).1 (by omega) r, (h.res p hp).2.kpo (off_old (h0.res p hp).2 hP) (kp_stz u P r)⟩
end Go.Proofs.Ytcdflegfjannmaa
