/- The document's example of law 15: awake. -/
import Derived.Test.YtcdflegfjannmaaStaK
namespace Go.Proofs.Ytcdflegfjannmaa
open Go Go.RowKit

theorem len_one {x : Sx} (h : x.dm.n = 0 ∧ x.fr.n ≤ 1 ∧ x.rg.n = 0 ∧ x.od.n = 0 ∧ x.pl.n = 0) : x.Len 1000 := by
  unfold Sx.Len
  omega

theorem fldS5 (v0 v1 v2 v3 v4 v6 v7 v8 v9 : Value) (b : Bool) (w : World) : (Instr.field 26 (.agg #[v0, v1, v2, v3, v4, .bool b, v6, v7, v8, v9]) 5).run Try.prog w = .ok (.bool b) w := by kernel_rfl

set_option maxRecDepth 100000 in
set_option maxHeartbeats 4000000 in
theorem awake_any (w : World) : Calls Try.prog 8 #[] w fun e w' => e = .returned (.bool true) ∧ Below w.heap.size w w' := by
  obtain ⟨xa, ha⟩ : ∃ x : Sx, x = { sx0 with fr := ⟨some ⟨w.heap.size, 0, none⟩, 1, 1, [[1]]⟩ } := ⟨_, rfl⟩
  obtain ⟨xb, hb⟩ : ∃ x : Sx, x = { sx0 with fr := ⟨some ⟨w.heap.size + 1, 0, none⟩, 1, 1, [[2]]⟩ } := ⟨_, rfl⟩
  have k1 := (bk_new w #[.int .i64 1] 3).on (bel_new _ (.cells #[.int .i64 2] 3))
  have k2 := bk_new (w.alloc (.cells #[.int .i64 1] 3)) #[.int .i64 2] 3
  rw [size_new] at k2
  have HW := hid (Below.on (bel_new w (.cells #[.int .i64 1] 3)) (bel_new _ (.cells #[.int .i64 2] 3)))
  have CM := merge_any xa xb ((w.alloc (.cells #[.int .i64 1] 3)).alloc (.cells #[.int .i64 2] 3)) (by rw [ha]; exact ⟨RdM.nil _ _, rdm_one1 k1, RdM.nil _ _, RdM.nil _ _, RdM.nil _ _⟩) (by rw [hb]; exact ⟨RdM.nil _ _, rdm_one1 k2, RdM.nil _ _, RdM.nil _ _, RdM.nil _ _⟩) (len_one (by rw [ha]; exact ⟨rfl, Nat.le_refl _, rfl, rfl, rfl⟩)) (len_one (by rw [hb]; exact ⟨rfl, Nat.le_refl _, rfl, rfl, rfl⟩))
  have hq0 : mrg xa.q xb.q = { sq0 with fr := [[1], [2]] } := by rw [ha, hb]; rfl
  rw [hq0, ha, hb] at CM
  have HC := hid CM
  clear CM k1 k2 ha hb hq0 xa xb
  go_enter Try.func8, Try.ntmps8
  go_wp2_with fail
  refine HC.out.mono ?_
  rintro e w1 ⟨r, rfl, okr, -, hq, hb⟩
  have hfr : r.fr.l = [[1], [2]] := congrArg Sq.fr hq
  have b1 := bel_new w1 (.cells #[.bool r.at_, .int .i64 r.buf, .slice r.dm.a r.dm.n r.dm.c, .slice r.fr.a r.fr.n r.fr.c, .bool r.inp, .bool r.all, .slice r.rg.a r.rg.n r.rg.c, .bool r.ord, .slice r.od.a r.od.n r.od.c, .slice r.pl.a r.pl.n r.pl.c] 26)
  have b2 := bel_new (w1.alloc (.cells #[.bool r.at_, .int .i64 r.buf, .slice r.dm.a r.dm.n r.dm.c, .slice r.fr.a r.fr.n r.fr.c, .bool r.inp, .bool r.all, .slice r.rg.a r.rg.n r.rg.c, .bool r.ord, .slice r.od.a r.od.n r.od.c, .slice r.pl.a r.pl.n r.pl.c] 26)) (.cells #[.int .i64 1, .int .i64 2] 3)
  have kk := bk_new (w1.alloc (.cells #[.bool r.at_, .int .i64 r.buf, .slice r.dm.a r.dm.n r.dm.c, .slice r.fr.a r.fr.n r.fr.c, .bool r.inp, .bool r.all, .slice r.rg.a r.rg.n r.rg.c, .bool r.ord, .slice r.od.a r.od.n r.od.c, .slice r.pl.a r.pl.n r.pl.c] 26)) #[.int .i64 1, .int .i64 2] 3
  rw [size_new] at kk
  have b12 := Below.on b1 b2
  have CS := sameints_any _ _ _ _ _ _ _ _ _ (okr.fr.on b12) (rdm_two1 kk)
  rw [hfr, leqs_same] at CS
  have HS := hid CS
  have HB := hid (Below.on (Below.on HW.out hb) b12)
  have CN := hid (fun u => none_any sx0 u (sx0_ok u))
  rw [show non sx0.q = true from rfl] at CN
  have CR : Hid (∀ u, RowKit.Below w1.heap.size w1 u → Calls Try.prog 17 #[.agg #[.bool r.at_, .int .i64 r.buf, .slice r.dm.a r.dm.n r.dm.c, .slice r.fr.a r.fr.n r.fr.c, .bool r.inp, .bool r.all, .slice r.rg.a r.rg.n r.rg.c, .bool r.ord, .slice r.od.a r.od.n r.od.c, .slice r.pl.a r.pl.n r.pl.c]] u fun e w' => e = .returned (.bool false) ∧ RowKit.Below u.heap.size u w') := fun u hu => by
    have h := none_any r u (okr.on hu)
    rw [hq, show non { sq0 with fr := [[1], [2]] } = false from rfl] at h
    exact h
  have CF := hid first_any
  have HB1 := hid b12
  have HBR := hid ((bs_new w1 r).on b2)
  clear HC CS okr hq hb hfr b1 b2 b12 kk HW
  go_wp2_with fail
  refine HS.out.mono ?_
  rintro e w2 ⟨rfl, q2, rfl⟩
  go_wp2_with fail
  refine (CN.out _).mono ?_
  rintro e w3 ⟨rfl, hb3⟩
  have HB3 := hid (Below.on (below_drewN HB1.out q2) hb3)
  have hR3 := (HBR.out.on (below_drewN (Below.refl _ _) q2)).on hb3
  have HB4 := hid (Below.on (below_drewN HB.out q2) hb3)
  obtain ⟨ra, rb, rc, rd, re, rf, rg, rh, ri, rj⟩ := hR3.all
  clear hb3 hR3
  go_wp2_with fail
  refine (CR.out _ HB3.out).mono ?_
  rintro e w4 ⟨rfl, hb4⟩
  have HB5 := hid (Below.on HB4.out hb4)
  clear hb4 ra rb rc rd re rf rg rh ri rj
  go_wp2_with fail
  refine (CF.out _).mono ?_
  rintro e w5 ⟨f, rfl, okf, -, hf, hb5⟩
  have hall : f.all = true := congrArg Sq.all hf
  have HB6 := hid (Below.on HB5.out hb5)
  clear hb5 okf hf
  have hfl := fldS5
  go_wp2
  go_ret
  exact ⟨rfl, HB6.out⟩
end Go.Proofs.Ytcdflegfjannmaa
