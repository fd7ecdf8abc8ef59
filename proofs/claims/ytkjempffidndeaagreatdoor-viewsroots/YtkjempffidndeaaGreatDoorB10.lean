/- Lemmas that the proof leans on. -/
import Derived.Test.YtkjempffidndeaaGreatDoorB09
namespace Go.Proofs.YtkjempffidndeaaGreatDoor
open Go Go.RowKit
set_option maxRecDepth 100000
set_option maxHeartbeats 4000000
section
theorem len_mono {x : Sx} {j k : Nat} (h : x.Len j) (hk : j ≤ k) : x.Len k := by
 unfold Sx.Len at *
 omega
def Sx.end_ (r : Sx) : Sx := { r with at_ := false, inp := false, ord := false, dm := sl0 }
theorem Sx.Ok.end_ {w : World} {r : Sx} (h : r.Ok w) : (r.end_).Ok w := ⟨RdM.nil _ _, h.fr, h.rg, h.od, h.pl⟩
theorem Sx.New.end_ {r : Sx} {B : Nat} (h : r.New B) : (r.end_).New B := ⟨(fun y e => by cases e), h.fr, h.rg, h.od, h.pl⟩
theorem Sx.Plf.end_ {r : Sx} (h : r.Plf) : (r.end_).Plf := fun y hy z => ⟨(fun e => by cases e), (h y hy z).2.1, (h y hy z).2.2.1, (h y hy z).2.2.2⟩
theorem applyo_any (x y : Sx) (w : World) (okx : x.Ok w) (oky : y.Ok w) (lx : x.Len 1000) (ly : y.Len 1000) : Calls Tryz.prog 108 #[.agg #[.bool x.at_, .int .i64 x.buf, .slice x.dm.a x.dm.n x.dm.c, .slice x.fr.a x.fr.n x.fr.c, .bool x.inp, .bool x.all, .slice x.rg.a x.rg.n x.rg.c, .bool x.ord, .slice x.od.a x.od.n x.od.c, .slice x.pl.a x.pl.n x.pl.c], .agg #[.bool y.at_, .int .i64 y.buf, .slice y.dm.a y.dm.n y.dm.c, .slice y.fr.a y.fr.n y.fr.c, .bool y.inp, .bool y.all, .slice y.rg.a y.rg.n y.rg.c, .bool y.ord, .slice y.od.a y.od.n y.od.c, .slice y.pl.a y.pl.n y.pl.c]] w (Rso w (apl x.q y.q)) := by
 have hb3 : Below w.heap.size w (((w.alloc (.cells #[.bool x.at_, .int .i64 x.buf, .slice x.dm.a x.dm.n x.dm.c, .slice x.fr.a x.fr.n x.fr.c, .bool x.inp, .bool x.all, .slice x.rg.a x.rg.n x.rg.c, .bool x.ord, .slice x.od.a x.od.n x.od.c, .slice x.pl.a x.pl.n x.pl.c] 72)).alloc (.cells #[.bool y.at_, .int .i64 y.buf, .slice y.dm.a y.dm.n y.dm.c, .slice y.fr.a y.fr.n y.fr.c, .bool y.inp, .bool y.all, .slice y.rg.a y.rg.n y.rg.c, .bool y.ord, .slice y.od.a y.od.n y.od.c, .slice y.pl.a y.pl.n y.pl.c] 72)).alloc (.cells #[.bool sx0.at_, .int .i64 sx0.buf, .slice sx0.dm.a sx0.dm.n sx0.dm.c, .slice sx0.fr.a sx0.fr.n sx0.fr.c, .bool sx0.inp, .bool sx0.all, .slice sx0.rg.a sx0.rg.n sx0.rg.c, .bool sx0.ord, .slice sx0.od.a sx0.od.n sx0.od.c, .slice sx0.pl.a sx0.pl.n sx0.pl.c] 72)) := Below.on (Below.on (bel_new _ _) (bel_new _ _)) (bel_new _ _)
 have CM := hid (mergeo_any x y _ (okx.on hb3) (oky.on hb3) lx ly)
 have hz := bs_new ((w.alloc (.cells #[.bool x.at_, .int .i64 x.buf, .slice x.dm.a x.dm.n x.dm.c, .slice x.fr.a x.fr.n x.fr.c, .bool x.inp, .bool x.all, .slice x.rg.a x.rg.n x.rg.c, .bool x.ord, .slice x.od.a x.od.n x.od.c, .slice x.pl.a x.pl.n x.pl.c] 72)).alloc (.cells #[.bool y.at_, .int .i64 y.buf, .slice y.dm.a y.dm.n y.dm.c, .slice y.fr.a y.fr.n y.fr.c, .bool y.inp, .bool y.all, .slice y.rg.a y.rg.n y.rg.c, .bool y.ord, .slice y.od.a y.od.n y.od.c, .slice y.pl.a y.pl.n y.pl.c] 72)) sx0
 simp only [size_new] at hz
 have HZ := hid hz
 have HB := hid hb3
 clear okx oky lx ly hb3 hz
 go_enter Tryz.func108, Tryz.ntmps108
 go_wp2_with fail
 refine CM.out.mono ?_
 rintro e w1 ⟨r, rfl, okr, hnr, hq, hb, hO, hP⟩
 have HR := hid okr
 have HQ := hid hq
 simp only [size_new] at hnr
 have HZ1 := hid (HZ.out.on hb)
 have HN := hid hnr.end_
 have HB1 := hid (Below.on HB.out hb)
 simp only [size_new] at hO
 have HO := hid hO
 have HP := hid hP.end_
 have hlt := HZ1.out.lt
 clear okr hnr hq hb CM HB HZ hO hP
 obtain ⟨ra, rb, rc, rd, re, rf, rg, rh, ri, rj⟩ := HZ1.out.all
 have fz := HZ1.out.fz
 go_wp2
 have hZ := (HZ1.out.stz r.end_).on (bel_new _ (.cells #[.bool false, .int .i64 r.buf, .slice none 0 0, .slice r.fr.a r.fr.n r.fr.c, .bool false, .bool r.all, .slice r.rg.a r.rg.n r.rg.c, .bool false, .slice r.od.a r.od.n r.od.c, .slice r.pl.a r.pl.n r.pl.c] 72))
 refine bodyPost_ret (results_cell_row rfl _ _ (w.heap.size + 1 + 1) _ _ _ _ rfl hZ.bk.obj Tryz.underlying72 rfl infoSt) rfl ?_
 refine ⟨r.end_, rfl, (HR.out.end_.stz HN.out (show w.heap.size + 1 + 1 < w.heap.size + 1 + 1 + 1 by omega) r.end_).on (bel_new _ _), HN.out.low (by omega), ?_, Below.on (below_stz HB1.out (show w.heap.size ≤ w.heap.size + 1 + 1 by omega) r.end_) (bel_new _ _), ownsRow_below (ownsRow_stz (ownsRow_low HO.out (by omega)) (w.heap.size + 1 + 1) (fun he => by have := (HO.out.lt _ he).1; omega) r.end_) (bel_new _ _), HP.out⟩
 have h := HQ.out
 rw [apl, ← h]
 rfl
end
end Go.Proofs.YtkjempffidndeaaGreatDoor
