/- Apply, First; law00's State. -/
import Derived.Test.YtcdflegfjannmaaStaI
namespace Go.Proofs.Ytcdflegfjannmaa
open Go Go.RowKit

theorem len_of {x : Sx} {w : World} (ok : x.Ok w) {k : Nat} (h : x.q.dm.length ≤ k ∧ x.q.fr.length ≤ k ∧ x.q.rg.length ≤ k ∧ x.q.od.length ≤ k ∧ x.q.pl.length ≤ k) : x.Len k := by
  simp only [Sx.q, ok.dm.len, ok.fr.len, ok.rg.len, ok.od.len, ok.pl.len] at h
  exact h
theorem len_mono {x : Sx} {j k : Nat} (h : x.Len j) (hk : j ≤ k) : x.Len k := by
  unfold Sx.Len at *
  omega
theorem len_mrg {x y r : Sx} {w u v : World} (okx : x.Ok w) (oky : y.Ok u) (okr : r.Ok v) (hr : r.q = mrg x.q y.q) {j k : Nat} (hx : x.Len j) (hy : y.Len k) : r.Len (j + k) := by
  obtain ⟨x2, x3, x6, x8, x9⟩ := hx
  obtain ⟨y2, y3, y6, y8, y9⟩ := hy
  refine len_of okr ?_
  rw [hr]
  have h1 : x.q.dm.length = x.dm.n ∧ x.q.fr.length = x.fr.n ∧ x.q.rg.length = x.rg.n ∧ x.q.od.length = x.od.n ∧ x.q.pl.length = x.pl.n := ⟨okx.dm.len, okx.fr.len, okx.rg.len, okx.od.len, okx.pl.len⟩
  have h2 : y.q.dm.length = y.dm.n ∧ y.q.fr.length = y.fr.n ∧ y.q.rg.length = y.rg.n ∧ y.q.od.length = y.od.n ∧ y.q.pl.length = y.pl.n := ⟨oky.dm.len, oky.fr.len, oky.rg.len, oky.od.len, oky.pl.len⟩
  have h3 := puts_length x.q.pl y.q.pl
  simp only [mrg, List.length_append]
  refine ⟨by omega, by omega, ?_, ?_, by omega⟩
  · cases y.q.inp
    · show x.q.rg.length ≤ j + k; omega
    · show y.q.rg.length ≤ j + k; omega
  · cases y.q.ord
    · show x.q.od.length ≤ j + k; omega
    · show y.q.od.length ≤ j + k; omega
theorem len_apl {x y r : Sx} {w u v : World} (okx : x.Ok w) (oky : y.Ok u) (okr : r.Ok v) (hr : r.q = apl x.q y.q) {j k : Nat} (hx : x.Len j) (hy : y.Len k) : r.Len (j + k) := by
  obtain ⟨x2, x3, x6, x8, x9⟩ := hx
  obtain ⟨y2, y3, y6, y8, y9⟩ := hy
  refine len_of okr ?_
  rw [hr]
  have h1 : x.q.dm.length = x.dm.n ∧ x.q.fr.length = x.fr.n ∧ x.q.rg.length = x.rg.n ∧ x.q.od.length = x.od.n ∧ x.q.pl.length = x.pl.n := ⟨okx.dm.len, okx.fr.len, okx.rg.len, okx.od.len, okx.pl.len⟩
  have h2 : y.q.dm.length = y.dm.n ∧ y.q.fr.length = y.fr.n ∧ y.q.rg.length = y.rg.n ∧ y.q.od.length = y.od.n ∧ y.q.pl.length = y.pl.n := ⟨oky.dm.len, oky.fr.len, oky.rg.len, oky.od.len, oky.pl.len⟩
  have h3 := puts_length x.q.pl y.q.pl
  simp only [apl, mrg, List.length_append, List.length_nil]
  refine ⟨by omega, by omega, ?_, ?_, by omega⟩
  · cases y.q.inp
    · show x.q.rg.length ≤ j + k; omega
    · show y.q.rg.length ≤ j + k; omega
  · cases y.q.ord
    · show x.q.od.length ≤ j + k; omega
    · show y.q.od.length ≤ j + k; omega
/-- Nothing to be turned any more. -/
def Sx.end_ (r : Sx) : Sx := { r with at_ := false, inp := false, ord := false, dm := sl0 }
theorem Sx.Ok.end_ {w : World} {r : Sx} (h : r.Ok w) : (r.end_).Ok w := ⟨RdM.nil _ _, h.fr, h.rg, h.od, h.pl⟩

theorem Sx.New.end_ {r : Sx} {B : Nat} (h : r.New B) : (r.end_).New B := ⟨(fun y e => by cases e), h.fr, h.rg, h.od, h.pl⟩

set_option maxRecDepth 100000 in
set_option maxHeartbeats 4000000 in
theorem apply_any (x y : Sx) (w : World) (okx : x.Ok w) (oky : y.Ok w) (lx : x.Len 1000) (ly : y.Len 1000) : Calls Try.prog 15 #[.agg #[.bool x.at_, .int .i64 x.buf, .slice x.dm.a x.dm.n x.dm.c, .slice x.fr.a x.fr.n x.fr.c, .bool x.inp, .bool x.all, .slice x.rg.a x.rg.n x.rg.c, .bool x.ord, .slice x.od.a x.od.n x.od.c, .slice x.pl.a x.pl.n x.pl.c], .agg #[.bool y.at_, .int .i64 y.buf, .slice y.dm.a y.dm.n y.dm.c, .slice y.fr.a y.fr.n y.fr.c, .bool y.inp, .bool y.all, .slice y.rg.a y.rg.n y.rg.c, .bool y.ord, .slice y.od.a y.od.n y.od.c, .slice y.pl.a y.pl.n y.pl.c]] w (Rst w (apl x.q y.q)) := by
  have hb3 : Below w.heap.size w (((w.alloc (.cells #[.bool x.at_, .int .i64 x.buf, .slice x.dm.a x.dm.n x.dm.c, .slice x.fr.a x.fr.n x.fr.c, .bool x.inp, .bool x.all, .slice x.rg.a x.rg.n x.rg.c, .bool x.ord, .slice x.od.a x.od.n x.od.c, .slice x.pl.a x.pl.n x.pl.c] 26)).alloc (.cells #[.bool y.at_, .int .i64 y.buf, .slice y.dm.a y.dm.n y.dm.c, .slice y.fr.a y.fr.n y.fr.c, .bool y.inp, .bool y.all, .slice y.rg.a y.rg.n y.rg.c, .bool y.ord, .slice y.od.a y.od.n y.od.c, .slice y.pl.a y.pl.n y.pl.c] 26)).alloc (.cells #[.bool sx0.at_, .int .i64 sx0.buf, .slice sx0.dm.a sx0.dm.n sx0.dm.c, .slice sx0.fr.a sx0.fr.n sx0.fr.c, .bool sx0.inp, .bool sx0.all, .slice sx0.rg.a sx0.rg.n sx0.rg.c, .bool sx0.ord, .slice sx0.od.a sx0.od.n sx0.od.c, .slice sx0.pl.a sx0.pl.n sx0.pl.c] 26)) := Below.on (Below.on (bel_new _ _) (bel_new _ _)) (bel_new _ _)
  have CM := hid (merge_any x y _ (okx.on hb3) (oky.on hb3) lx ly)
  have hz := bs_new ((w.alloc (.cells #[.bool x.at_, .int .i64 x.buf, .slice x.dm.a x.dm.n x.dm.c, .slice x.fr.a x.fr.n x.fr.c, .bool x.inp, .bool x.all, .slice x.rg.a x.rg.n x.rg.c, .bool x.ord, .slice x.od.a x.od.n x.od.c, .slice x.pl.a x.pl.n x.pl.c] 26)).alloc (.cells #[.bool y.at_, .int .i64 y.buf, .slice y.dm.a y.dm.n y.dm.c, .slice y.fr.a y.fr.n y.fr.c, .bool y.inp, .bool y.all, .slice y.rg.a y.rg.n y.rg.c, .bool y.ord, .slice y.od.a y.od.n y.od.c, .slice y.pl.a y.pl.n y.pl.c] 26)) sx0
  simp only [size_new] at hz
  have HZ := hid hz
  have HB := hid hb3
  clear okx oky lx ly hb3 hz
  go_enter Try.func15, Try.ntmps15
  go_wp2_with fail
  refine CM.out.mono ?_
  rintro e w1 ⟨r, rfl, okr, hnr, hq, hb⟩
  have HR := hid okr
  have HQ := hid hq
  simp only [size_new] at hnr
  have HZ1 := hid (HZ.out.on hb)
  have HN := hid hnr.end_
  have HB1 := hid (Below.on HB.out hb)
  have hlt := HZ1.out.lt
  clear okr hnr hq hb CM HB HZ
  obtain ⟨ra, rb, rc, rd, re, rf, rg, rh, ri, rj⟩ := HZ1.out.all
  have fz := HZ1.out.fz
  go_wp2
  have hZ := (HZ1.out.stz r.end_).on (bel_new _ (.cells #[.bool false, .int .i64 r.buf, .slice none 0 0, .slice r.fr.a r.fr.n r.fr.c, .bool false, .bool r.all, .slice r.rg.a r.rg.n r.rg.c, .bool false, .slice r.od.a r.od.n r.od.c, .slice r.pl.a r.pl.n r.pl.c] 26))
  refine bodyPost_ret (results_cell_row rfl _ _ (w.heap.size + 1 + 1) _ _ _ _ rfl hZ.bk.obj Try.underlying26 rfl infoSt) rfl ?_
  refine ⟨r.end_, rfl, (HR.out.end_.stz HN.out (show w.heap.size + 1 + 1 < w.heap.size + 1 + 1 + 1 by omega) r.end_).on (bel_new _ _), HN.out.low (by omega), ?_, Below.on (below_stz HB1.out (show w.heap.size ≤ w.heap.size + 1 + 1 by omega) r.end_) (bel_new _ _)⟩
  have h := HQ.out
  rw [apl, ← h]
  rfl
end Go.Proofs.Ytcdflegfjannmaa
