/- Lemmas that the proof leans on. -/
import Derived.Test.YtdgknofpkafppaaGreatDoorB43
namespace Go.Proofs.YtdgknofpkafppaaGreatDoor
open Go Go.RowKit
set_option maxRecDepth 100000
set_option maxHeartbeats 4000000
section
variable {es : List Addr} {w0 w w' : World} {p q mm : Nat} {F : Fo}
theorem stp_com13 (h : B2q es w0 p q mm F w) (hm : mm ≤ 890) (o : Oq) (ok : o.Ok w) (hv : plc o.k 19 = 13) :
  Calls Tryz.prog 7 #[.pointer (some ⟨p, 0, none⟩), .pointer (some ⟨q, 0, none⟩), .agg #[.int .i64 o.k, .int .i64 o.id, .int .i64 o.a, .int .i64 o.b, .int .i64 o.x, .int .i64 o.y, .int .i64 o.w, .int .i64 o.h, .slice o.l.a o.l.n o.l.c]] w (StR es w0 p q mm) := by
 have hm1 : mm ≤ 900 := by omega
 have hm2 : mm + 1 ≤ 900 := by omega
 have hO := h.bo #[.int .i64 o.k, .int .i64 o.id, .int .i64 o.a, .int .i64 o.b, .int .i64 o.x, .int .i64 o.y, .int .i64 o.w, .int .i64 o.h, .slice o.l.a o.l.n o.l.c]
 have okl := ok.l.on (bel_new w (.cells #[.int .i64 o.k, .int .i64 o.id, .int .i64 o.a, .int .i64 o.b, .int .i64 o.x, .int .i64 o.y, .int .i64 o.w, .int .i64 o.h, .slice o.l.a o.l.n o.l.c] 33))
 have HP := hid (place_any o.k 19 ok.k (by omega) (by omega))
 rw [hv] at HP
 obtain ⟨Y, hY, hYg, hW⟩ := hO.dat
 obtain ⟨r, hc, hr⟩ := hY.s o.id
 have HC := hid hc
 have HW := hid hW
 have HOKL := hid okl
 clear h hc hv hW okl
 go_enter Tryz.func7, Tryz.ntmps7
 go_wp2_with fail
 refine HC.out.mono ?_
 rintro e W ⟨rfl, hW1⟩
 obtain rfl : W = _ := hW1
 clear HC
 generalize w.alloc (.cells #[.int .i64 o.k, .int .i64 o.id, .int .i64 o.a, .int .i64 o.b, .int .i64 o.x, .int .i64 o.y, .int .i64 o.w, .int .i64 o.h, .slice o.l.a o.l.n o.l.c] 33) = W at *
 generalize w.heap.size = g at *
 clear hYg HW HOKL hY
 rcases hr with ⟨rfl, _⟩ | ⟨gd, P, s, rfl, _, _⟩
 all_goals
  have oc := hO.oc
  have c0 := oc.c0
  have l0 := oc.lt
  go_wp2_with fail
  refine (HP.out _).mono ?_
  rintro e W1 ⟨rfl, hW2⟩
  obtain rfl : W1 = W := hW2
  clear HP c0 l0 oc
  obtain ⟨t0, t1, t2, t3, t4, t5, t6, t7, t8, t9⟩ := hO.oc
  obtain ⟨Y1, _, hc1⟩ := hO.lcom hm1 o.id ok.id
  have CA := hid hc1
  clear hO hc1
  go_wp2_with fail
  refine CA.out.mono ?_
  rintro e W2 ⟨a1, c1, rfl, hr1, hy1, X1, hz1⟩
  clear CA t0 t1 t2 t3 t4 t5 t6 t7 t8 t9
  obtain ⟨t0, t1, t2, t3, t4, t5, t6, t7, t8, t9⟩ := hz1.bq.oc
  have CB := hid (hz1.rcom hm2 o.id hr1 hy1)
  clear hz1 hr1 hy1
  go_wp2_with fail
  refine CB.out.mono ?_
  rintro e W3 ⟨a2, c2, rfl, hr2, hr3, hO4⟩
  clear CB t0 t1 t2 t3 t4 t5 t6 t7 t8 t9
  have CS := hid (samez_any _ _ _ _ _ _ _ _ _ hr3 hr2)
  have HO4 := hid hO4
  clear hr2 hr3 hO4
  go_wp2_with fail
  refine CS.out.mono ?_
  rintro e W4 ⟨rfl, q4, rfl⟩
  rw [zeq_self]
  have CK := hid ((HO4.out.on (below_drewN (Below.refl _ _) q4)).kind _ (hasE_le F o.id))
  clear CS HO4
  generalize W3.drewN q4 = W5 at *
  generalize hasE F o.id = kk at *
  go_wp2_with fail
  refine CK.out.mono ?_
  rintro e W6 ⟨rfl, hO6⟩
  have HF := hid hO6
  clear hO6 CK
  go_wp2
  go_ret
  exact ⟨rfl, _, HF.out.two (by omega)⟩
theorem stp_com14 (h : B2q es w0 p q mm F w) (hm : mm ≤ 890) (o : Oq) (ok : o.Ok w) (hv : plc o.k 19 = 14) :
  Calls Tryz.prog 7 #[.pointer (some ⟨p, 0, none⟩), .pointer (some ⟨q, 0, none⟩), .agg #[.int .i64 o.k, .int .i64 o.id, .int .i64 o.a, .int .i64 o.b, .int .i64 o.x, .int .i64 o.y, .int .i64 o.w, .int .i64 o.h, .slice o.l.a o.l.n o.l.c]] w (StR es w0 p q mm) := by
 have hm1 : mm ≤ 900 := by omega
 have hm2 : mm + 1 ≤ 900 := by omega
 have hO := h.bo #[.int .i64 o.k, .int .i64 o.id, .int .i64 o.a, .int .i64 o.b, .int .i64 o.x, .int .i64 o.y, .int .i64 o.w, .int .i64 o.h, .slice o.l.a o.l.n o.l.c]
 have okl := ok.l.on (bel_new w (.cells #[.int .i64 o.k, .int .i64 o.id, .int .i64 o.a, .int .i64 o.b, .int .i64 o.x, .int .i64 o.y, .int .i64 o.w, .int .i64 o.h, .slice o.l.a o.l.n o.l.c] 33))
 have HP := hid (place_any o.k 19 ok.k (by omega) (by omega))
 rw [hv] at HP
 obtain ⟨Y, hY, hYg, hW⟩ := hO.dat
 obtain ⟨r, hc, hr⟩ := hY.s o.id
 have HC := hid hc
 have HW := hid hW
 have HOKL := hid okl
 clear h hc hv hW okl
 go_enter Tryz.func7, Tryz.ntmps7
 go_wp2_with fail
 refine HC.out.mono ?_
 rintro e W ⟨rfl, hW1⟩
 obtain rfl : W = _ := hW1
 clear HC
 generalize w.alloc (.cells #[.int .i64 o.k, .int .i64 o.id, .int .i64 o.a, .int .i64 o.b, .int .i64 o.x, .int .i64 o.y, .int .i64 o.w, .int .i64 o.h, .slice o.l.a o.l.n o.l.c] 33) = W at *
 generalize w.heap.size = g at *
 clear hYg HW HOKL hY
 rcases hr with ⟨rfl, _⟩ | ⟨gd, P, s, rfl, _, _⟩
 all_goals
  have oc := hO.oc
  have c0 := oc.c0
  have l0 := oc.lt
  go_wp2_with fail
  refine (HP.out _).mono ?_
  rintro e W1 ⟨rfl, hW2⟩
  obtain rfl : W1 = W := hW2
  clear HP c0 l0 oc
  obtain ⟨t0, t1, t2, t3, t4, t5, t6, t7, t8, t9⟩ := hO.oc
  obtain ⟨Y1, _, hc1⟩ := hO.lcom hm1 o.id ok.id
  have CA := hid hc1
  clear hO hc1
  go_wp2_with fail
  refine CA.out.mono ?_
  rintro e W2 ⟨a1, c1, rfl, hr1, hy1, X1, hz1⟩
  clear CA t0 t1 t2 t3 t4 t5 t6 t7 t8 t9
  obtain ⟨t0, t1, t2, t3, t4, t5, t6, t7, t8, t9⟩ := hz1.bq.oc
  have CB := hid (hz1.rcom hm2 o.id hr1 hy1)
  clear hz1 hr1 hy1
  go_wp2_with fail
  refine CB.out.mono ?_
  rintro e W3 ⟨a2, c2, rfl, hr2, hr3, hO4⟩
  clear CB t0 t1 t2 t3 t4 t5 t6 t7 t8 t9
  have CS := hid (samez_any _ _ _ _ _ _ _ _ _ hr3 hr2)
  have HO4 := hid hO4
  clear hr2 hr3 hO4
  go_wp2_with fail
  refine CS.out.mono ?_
  rintro e W4 ⟨rfl, q4, rfl⟩
  rw [zeq_self]
  have CK := hid ((HO4.out.on (below_drewN (Below.refl _ _) q4)).kind _ (hasE_le F o.id))
  clear CS HO4
  generalize W3.drewN q4 = W5 at *
  generalize hasE F o.id = kk at *
  go_wp2_with fail
  refine CK.out.mono ?_
  rintro e W6 ⟨rfl, hO6⟩
  have HF := hid hO6
  clear hO6 CK
  go_wp2
  go_ret
  exact ⟨rfl, _, HF.out.two (by omega)⟩
theorem stp_com15 (h : B2q es w0 p q mm F w) (hm : mm ≤ 890) (o : Oq) (ok : o.Ok w) (hv : plc o.k 19 = 15) :
  Calls Tryz.prog 7 #[.pointer (some ⟨p, 0, none⟩), .pointer (some ⟨q, 0, none⟩), .agg #[.int .i64 o.k, .int .i64 o.id, .int .i64 o.a, .int .i64 o.b, .int .i64 o.x, .int .i64 o.y, .int .i64 o.w, .int .i64 o.h, .slice o.l.a o.l.n o.l.c]] w (StR es w0 p q mm) := by
 have hm1 : mm ≤ 900 := by omega
 have hm2 : mm + 1 ≤ 900 := by omega
 have hO := h.bo #[.int .i64 o.k, .int .i64 o.id, .int .i64 o.a, .int .i64 o.b, .int .i64 o.x, .int .i64 o.y, .int .i64 o.w, .int .i64 o.h, .slice o.l.a o.l.n o.l.c]
 have okl := ok.l.on (bel_new w (.cells #[.int .i64 o.k, .int .i64 o.id, .int .i64 o.a, .int .i64 o.b, .int .i64 o.x, .int .i64 o.y, .int .i64 o.w, .int .i64 o.h, .slice o.l.a o.l.n o.l.c] 33))
 have HP := hid (place_any o.k 19 ok.k (by omega) (by omega))
 rw [hv] at HP
 obtain ⟨Y, hY, hYg, hW⟩ := hO.dat
 obtain ⟨r, hc, hr⟩ := hY.s o.id
 have HC := hid hc
 have HW := hid hW
 have HOKL := hid okl
 clear h hc hv hW okl
 go_enter Tryz.func7, Tryz.ntmps7
 go_wp2_with fail
 refine HC.out.mono ?_
 rintro e W ⟨rfl, hW1⟩
 obtain rfl : W = _ := hW1
 clear HC
 generalize w.alloc (.cells #[.int .i64 o.k, .int .i64 o.id, .int .i64 o.a, .int .i64 o.b, .int .i64 o.x, .int .i64 o.y, .int .i64 o.w, .int .i64 o.h, .slice o.l.a o.l.n o.l.c] 33) = W at *
 generalize w.heap.size = g at *
 clear hYg HW HOKL hY
 rcases hr with ⟨rfl, _⟩ | ⟨gd, P, s, rfl, _, _⟩
 all_goals
  have oc := hO.oc
  have c0 := oc.c0
  have l0 := oc.lt
  go_wp2_with fail
  refine (HP.out _).mono ?_
  rintro e W1 ⟨rfl, hW2⟩
  obtain rfl : W1 = W := hW2
  clear HP c0 l0 oc
  obtain ⟨t0, t1, t2, t3, t4, t5, t6, t7, t8, t9⟩ := hO.oc
  obtain ⟨Y1, _, hc1⟩ := hO.lcom hm1 o.id ok.id
  have CA := hid hc1
  clear hO hc1
  go_wp2_with fail
  refine CA.out.mono ?_
  rintro e W2 ⟨a1, c1, rfl, hr1, hy1, X1, hz1⟩
  clear CA t0 t1 t2 t3 t4 t5 t6 t7 t8 t9
  obtain ⟨t0, t1, t2, t3, t4, t5, t6, t7, t8, t9⟩ := hz1.bq.oc
  have CB := hid (hz1.rcom hm2 o.id hr1 hy1)
  clear hz1 hr1 hy1
  go_wp2_with fail
  refine CB.out.mono ?_
  rintro e W3 ⟨a2, c2, rfl, hr2, hr3, hO4⟩
  clear CB t0 t1 t2 t3 t4 t5 t6 t7 t8 t9
  have CS := hid (samez_any _ _ _ _ _ _ _ _ _ hr3 hr2)
  have HO4 := hid hO4
  clear hr2 hr3 hO4
  go_wp2_with fail
  refine CS.out.mono ?_
  rintro e W4 ⟨rfl, q4, rfl⟩
  rw [zeq_self]
  have CK := hid ((HO4.out.on (below_drewN (Below.refl _ _) q4)).kind _ (hasE_le F o.id))
  clear CS HO4
  generalize W3.drewN q4 = W5 at *
  generalize hasE F o.id = kk at *
  go_wp2_with fail
  refine CK.out.mono ?_
  rintro e W6 ⟨rfl, hO6⟩
  have HF := hid hO6
  clear hO6 CK
  go_wp2
  go_ret
  exact ⟨rfl, _, HF.out.two (by omega)⟩
theorem stp_com16 (h : B2q es w0 p q mm F w) (hm : mm ≤ 890) (o : Oq) (ok : o.Ok w) (hv : plc o.k 19 = 16) :
  Calls Tryz.prog 7 #[.pointer (some ⟨p, 0, none⟩), .pointer (some ⟨q, 0, none⟩), .agg #[.int .i64 o.k, .int .i64 o.id, .int .i64 o.a, .int .i64 o.b, .int .i64 o.x, .int .i64 o.y, .int .i64 o.w, .int .i64 o.h, .slice o.l.a o.l.n o.l.c]] w (StR es w0 p q mm) := by
 have hm1 : mm ≤ 900 := by omega
 have hm2 : mm + 1 ≤ 900 := by omega
 have hO := h.bo #[.int .i64 o.k, .int .i64 o.id, .int .i64 o.a, .int .i64 o.b, .int .i64 o.x, .int .i64 o.y, .int .i64 o.w, .int .i64 o.h, .slice o.l.a o.l.n o.l.c]
 have okl := ok.l.on (bel_new w (.cells #[.int .i64 o.k, .int .i64 o.id, .int .i64 o.a, .int .i64 o.b, .int .i64 o.x, .int .i64 o.y, .int .i64 o.w, .int .i64 o.h, .slice o.l.a o.l.n o.l.c] 33))
 have HP := hid (place_any o.k 19 ok.k (by omega) (by omega))
 rw [hv] at HP
 obtain ⟨Y, hY, hYg, hW⟩ := hO.dat
 obtain ⟨r, hc, hr⟩ := hY.s o.id
 have HC := hid hc
 have HW := hid hW
 have HOKL := hid okl
 clear h hc hv hW okl
 go_enter Tryz.func7, Tryz.ntmps7
 go_wp2_with fail
 refine HC.out.mono ?_
 rintro e W ⟨rfl, hW1⟩
 obtain rfl : W = _ := hW1
 clear HC
 generalize w.alloc (.cells #[.int .i64 o.k, .int .i64 o.id, .int .i64 o.a, .int .i64 o.b, .int .i64 o.x, .int .i64 o.y, .int .i64 o.w, .int .i64 o.h, .slice o.l.a o.l.n o.l.c] 33) = W at *
 generalize w.heap.size = g at *
 clear hYg HW HOKL hY
 rcases hr with ⟨rfl, _⟩ | ⟨gd, P, s, rfl, _, _⟩
 all_goals
  have oc := hO.oc
  have c0 := oc.c0
  have l0 := oc.lt
  go_wp2_with fail
  refine (HP.out _).mono ?_
  rintro e W1 ⟨rfl, hW2⟩
  obtain rfl : W1 = W := hW2
  clear HP c0 l0 oc
  obtain ⟨t0, t1, t2, t3, t4, t5, t6, t7, t8, t9⟩ := hO.oc
  obtain ⟨Y1, _, hc1⟩ := hO.lcom hm1 o.id ok.id
  have CA := hid hc1
  clear hO hc1
  go_wp2_with fail
  refine CA.out.mono ?_
  rintro e W2 ⟨a1, c1, rfl, hr1, hy1, X1, hz1⟩
  clear CA t0 t1 t2 t3 t4 t5 t6 t7 t8 t9
  obtain ⟨t0, t1, t2, t3, t4, t5, t6, t7, t8, t9⟩ := hz1.bq.oc
  have CB := hid (hz1.rcom hm2 o.id hr1 hy1)
  clear hz1 hr1 hy1
  go_wp2_with fail
  refine CB.out.mono ?_
  rintro e W3 ⟨a2, c2, rfl, hr2, hr3, hO4⟩
  clear CB t0 t1 t2 t3 t4 t5 t6 t7 t8 t9
  have CS := hid (samez_any _ _ _ _ _ _ _ _ _ hr3 hr2)
  have HO4 := hid hO4
  clear hr2 hr3 hO4
  go_wp2_with fail
  refine CS.out.mono ?_
  rintro e W4 ⟨rfl, q4, rfl⟩
  rw [zeq_self]
  have CK := hid ((HO4.out.on (below_drewN (Below.refl _ _) q4)).kind _ (hasE_le F o.id))
  clear CS HO4
  generalize W3.drewN q4 = W5 at *
  generalize hasE F o.id = kk at *
  go_wp2_with fail
  refine CK.out.mono ?_
  rintro e W6 ⟨rfl, hO6⟩
  have HF := hid hO6
  clear hO6 CK
  go_wp2
  go_ret
  exact ⟨rfl, _, HF.out.two (by omega)⟩
theorem stp_com17 (h : B2q es w0 p q mm F w) (hm : mm ≤ 890) (o : Oq) (ok : o.Ok w) (hv : plc o.k 19 = 17) :
  Calls Tryz.prog 7 #[.pointer (some ⟨p, 0, none⟩), .pointer (some ⟨q, 0, none⟩), .agg #[.int .i64 o.k, .int .i64 o.id, .int .i64 o.a, .int .i64 o.b, .int .i64 o.x, .int .i64 o.y, .int .i64 o.w, .int .i64 o.h, .slice o.l.a o.l.n o.l.c]] w (StR es w0 p q mm) := by
 have hm1 : mm ≤ 900 := by omega
 have hm2 : mm + 1 ≤ 900 := by omega
 have hO := h.bo #[.int .i64 o.k, .int .i64 o.id, .int .i64 o.a, .int .i64 o.b, .int .i64 o.x, .int .i64 o.y, .int .i64 o.w, .int .i64 o.h, .slice o.l.a o.l.n o.l.c]
 have okl := ok.l.on (bel_new w (.cells #[.int .i64 o.k, .int .i64 o.id, .int .i64 o.a, .int .i64 o.b, .int .i64 o.x, .int .i64 o.y, .int .i64 o.w, .int .i64 o.h, .slice o.l.a o.l.n o.l.c] 33))
 have HP := hid (place_any o.k 19 ok.k (by omega) (by omega))
 rw [hv] at HP
 obtain ⟨Y, hY, hYg, hW⟩ := hO.dat
 obtain ⟨r, hc, hr⟩ := hY.s o.id
 have HC := hid hc
 have HW := hid hW
 have HOKL := hid okl
 clear h hc hv hW okl
 go_enter Tryz.func7, Tryz.ntmps7
 go_wp2_with fail
 refine HC.out.mono ?_
 rintro e W ⟨rfl, hW1⟩
 obtain rfl : W = _ := hW1
 clear HC
 generalize w.alloc (.cells #[.int .i64 o.k, .int .i64 o.id, .int .i64 o.a, .int .i64 o.b, .int .i64 o.x, .int .i64 o.y, .int .i64 o.w, .int .i64 o.h, .slice o.l.a o.l.n o.l.c] 33) = W at *
 generalize w.heap.size = g at *
 clear hYg HW HOKL hY
 rcases hr with ⟨rfl, _⟩ | ⟨gd, P, s, rfl, _, _⟩
 all_goals
  have oc := hO.oc
  have c0 := oc.c0
  have l0 := oc.lt
  go_wp2_with fail
  refine (HP.out _).mono ?_
  rintro e W1 ⟨rfl, hW2⟩
  obtain rfl : W1 = W := hW2
  clear HP c0 l0 oc
  obtain ⟨t0, t1, t2, t3, t4, t5, t6, t7, t8, t9⟩ := hO.oc
  obtain ⟨Y1, _, hc1⟩ := hO.lcom hm1 o.id ok.id
  have CA := hid hc1
  clear hO hc1
  go_wp2_with fail
  refine CA.out.mono ?_
  rintro e W2 ⟨a1, c1, rfl, hr1, hy1, X1, hz1⟩
  clear CA t0 t1 t2 t3 t4 t5 t6 t7 t8 t9
  obtain ⟨t0, t1, t2, t3, t4, t5, t6, t7, t8, t9⟩ := hz1.bq.oc
  have CB := hid (hz1.rcom hm2 o.id hr1 hy1)
  clear hz1 hr1 hy1
  go_wp2_with fail
  refine CB.out.mono ?_
  rintro e W3 ⟨a2, c2, rfl, hr2, hr3, hO4⟩
  clear CB t0 t1 t2 t3 t4 t5 t6 t7 t8 t9
  have CS := hid (samez_any _ _ _ _ _ _ _ _ _ hr3 hr2)
  have HO4 := hid hO4
  clear hr2 hr3 hO4
  go_wp2_with fail
  refine CS.out.mono ?_
  rintro e W4 ⟨rfl, q4, rfl⟩
  rw [zeq_self]
  have CK := hid ((HO4.out.on (below_drewN (Below.refl _ _) q4)).kind _ (hasE_le F o.id))
  clear CS HO4
  generalize W3.drewN q4 = W5 at *
  generalize hasE F o.id = kk at *
  go_wp2_with fail
  refine CK.out.mono ?_
  rintro e W6 ⟨rfl, hO6⟩
  have HF := hid hO6
  clear hO6 CK
  go_wp2
  go_ret
  exact ⟨rfl, _, HF.out.two (by omega)⟩
end
end Go.Proofs.YtdgknofpkafppaaGreatDoor
