/- Lemmas that the proof leans on. -/
import Derived.Test.YtdgknofpkafppaaGreatDoorB41
import Derived.Test.YtdgknofpkafppaaGreatDoorB44
import Derived.Test.YtdgknofpkafppaaGreatDoorB45
import Derived.Test.YtdgknofpkafppaaGreatDoorB46
namespace Go.Proofs.YtdgknofpkafppaaGreatDoor
open Go Go.RowKit
set_option maxRecDepth 100000
set_option maxHeartbeats 4000000
section
variable {es : List Addr} {w0 w w' : World} {p q mm : Nat} {F : Fo}
theorem syncs_any (h : B2q es w0 p q mm F w) (hm : mm ≤ 890) (o : Oq) (ok : o.Ok w) :
  Calls Tryz.prog 38 #[.pointer (some ⟨p, 0, none⟩), .pointer (some ⟨q, 0, none⟩), .agg #[.int .i64 o.k, .int .i64 o.id, .int .i64 o.a, .int .i64 o.b, .int .i64 o.x, .int .i64 o.y, .int .i64 o.w, .int .i64 o.h, .slice o.l.a o.l.n o.l.c]] w (StR es w0 p q mm) := by
 have hm1 : mm ≤ 900 := by omega
 have hm2 : mm + 1 ≤ 900 := by omega
 have hO := h.bo #[.int .i64 o.k, .int .i64 o.id, .int .i64 o.a, .int .i64 o.b, .int .i64 o.x, .int .i64 o.y, .int .i64 o.w, .int .i64 o.h, .slice o.l.a o.l.n o.l.c]
 obtain ⟨Y, hY, hYg, hW⟩ := hO.dat
 obtain ⟨r, hc, hr⟩ := hY.s o.id
 have HC := hid hc
 have HW := hid hW
 clear h hc hW
 go_enter Tryz.func38, Tryz.ntmps38
 go_wp2_with fail
 refine HC.out.mono ?_
 rintro e W ⟨rfl, hW1⟩
 obtain rfl : W = _ := hW1
 clear HC
 generalize w.alloc (.cells #[.int .i64 o.k, .int .i64 o.id, .int .i64 o.a, .int .i64 o.b, .int .i64 o.x, .int .i64 o.y, .int .i64 o.w, .int .i64 o.h, .slice o.l.a o.l.n o.l.c] 33) = W at *
 generalize w.heap.size = g at *
 rcases hr with ⟨rfl, hno⟩ | ⟨gd, P, s, rfl, hys, hD⟩
 ·have hun : unsE F o.id = 5 := by rw [unsE, hno]
  have hup : synF F o.id (bits BinOp.and IntKind.i64 o.a 1 == 0) = F := by rw [synF, hno]
  obtain ⟨t0, t1, t2, t3, t4, t5, t6, t7, t8, t9⟩ := hO.oc
  have CA := hid (hO.left (pq_syn hm1 o.id ok.id (bits BinOp.and IntKind.i64 o.a 1 == 0)))
  rw [hun, hup] at CA
  clear hO HW hY hYg
  go_wp2_with fail
  refine CA.out.mono ?_
  rintro e Y2 ⟨rfl, hO3⟩
  have CK := hid (hO3.kind 5 (by decide))
  try rw [show erv es 0 = .nilIface from rfl] at CK
  try rw [show erv es 0 = .nilIface from rfl]
  clear hO3 CA
  go_wp2_with fail
  refine CK.out.mono ?_
  rintro e Y3 ⟨rfl, hO4⟩
  have HF := hid hO4
  clear hO4 CK
  go_wp2
  go_ret
  exact ⟨rfl, _, HF.out.two (by omega)⟩
 ·have hgg : gd ≠ g := hYg gd hD.mem
  have d1 := hD.par
  have hlt := hD.lt
  by_cases hp : s.par = 0
  ·have hun : unsE F o.id = 10 := by simp only [unsE, hys, hp, if_true]
   have hup : synF F o.id (bits BinOp.and IntKind.i64 o.a 1 == 0) = F := by simp only [synF, hys, hp, if_true]
   rw [hp] at d1
   obtain ⟨t0, t1, t2, t3, t4, t5, t6, t7, t8, t9⟩ := hO.oc
   have CA := hid (hO.left (pq_syn hm1 o.id ok.id (bits BinOp.and IntKind.i64 o.a 1 == 0)))
   rw [hun, hup] at CA
   clear hO HW hY hYg hD
   go_wp2_with fail
   refine CA.out.mono ?_
   rintro e Y2 ⟨rfl, hO3⟩
   have CK := hid (hO3.kind 10 (by decide))
   try rw [show erv es 0 = .nilIface from rfl] at CK
   try rw [show erv es 0 = .nilIface from rfl]
   clear hO3 CA
   go_wp2_with fail
   refine CK.out.mono ?_
   rintro e Y3 ⟨rfl, hO4⟩
   have HF := hid hO4
   clear hO4 CK
   go_wp2
   go_ret
   exact ⟨rfl, _, HF.out.two (by omega)⟩
  ·have hun : unsE F o.id = 0 := by simp only [unsE, hys, if_neg hp]
   have hpb : (s.par == 0) = false := by simpa using hp
   have hpn : (s.par != 0) = true := by simpa using hp
   have d2 := hD.syn
   have hfz := hD.fz
   have hO2 := HW.out _ _ (hD.wsyn W (bits BinOp.and IntKind.i64 o.a 1 == 0) (Below.refl _ _) hp)
   obtain ⟨t0, t1, t2, t3, t4, t5, t6, t7, t8, t9⟩ := hO2.oc
   have CA := hid (hO2.left (pq_syn hm2 o.id ok.id (bits BinOp.and IntKind.i64 o.a 1 == 0)))
   rw [show unsE F o.id = 0 from hun] at CA
   have HOC := hid hO2.oc
   clear hO2 t0 t1 t2 t3 t4 t5 t6 t7 t8 t9
   obtain ⟨t0, t1, t2, t3, t4, t5, t6, t7, t8, t9⟩ := hO.oc
   clear hO HW hY hYg hD
   go_upto_region 8 with fail
   obtain ⟨u0, u1, u2, u3, u4, u5, u6, u7, u8, u9⟩ := HOC.out
   generalize World.setCell _ _ _ = V9 at *
   clear t0 t1 t2 t3 t4 t5 t6 t7 t8 t9 d1 d2 hfz hlt HOC
   go_wp2_with fail
   refine CA.out.mono ?_
   rintro e Y2 ⟨rfl, hO3⟩
   have CK := hid (hO3.kind 0 (by decide))
   try rw [show erv es 0 = .nilIface from rfl] at CK
   try rw [show erv es 0 = .nilIface from rfl]
   clear hO3 CA
   go_wp2_with fail
   refine CK.out.mono ?_
   rintro e Y3 ⟨rfl, hO4⟩
   have HF := hid hO4
   clear hO4 CK
   go_wp2
   go_ret
   exact ⟨rfl, _, HF.out.two (by omega)⟩
theorem stp_syn (h : B2q es w0 p q mm F w) (hm : mm ≤ 890) (o : Oq) (ok : o.Ok w) (hv : plc o.k 19 = 12) :
  Calls Tryz.prog 7 #[.pointer (some ⟨p, 0, none⟩), .pointer (some ⟨q, 0, none⟩), .agg #[.int .i64 o.k, .int .i64 o.id, .int .i64 o.a, .int .i64 o.b, .int .i64 o.x, .int .i64 o.y, .int .i64 o.w, .int .i64 o.h, .slice o.l.a o.l.n o.l.c]] w (StR es w0 p q mm) := by
 have hm1 : mm ≤ 900 := by omega
 have hm2 : mm + 1 ≤ 900 := by omega
 have hO := h.bo #[.int .i64 o.k, .int .i64 o.id, .int .i64 o.a, .int .i64 o.b, .int .i64 o.x, .int .i64 o.y, .int .i64 o.w, .int .i64 o.h, .slice o.l.a o.l.n o.l.c]
 have okl := ok.l.on (bel_new w (.cells #[.int .i64 o.k, .int .i64 o.id, .int .i64 o.a, .int .i64 o.b, .int .i64 o.x, .int .i64 o.y, .int .i64 o.w, .int .i64 o.h, .slice o.l.a o.l.n o.l.c] 33))
 have HP := hid (place_any o.k 19 ok.k (by omega) (by omega))
 rw [hv] at HP
 obtain ⟨Y, hY, hYg, hW⟩ := hO.dat
 obtain ⟨r, hc, hr⟩ := hY.s o.id
 have HC := hid hc
 have HW := hid hW
 have HOKL := hid okl
 clear h hc hv hW okl
 go_enter Tryz.func7, Tryz.ntmps7
 go_wp2_with fail
 refine HC.out.mono ?_
 rintro e W ⟨rfl, hW1⟩
 obtain rfl : W = _ := hW1
 clear HC
 generalize w.alloc (.cells #[.int .i64 o.k, .int .i64 o.id, .int .i64 o.a, .int .i64 o.b, .int .i64 o.x, .int .i64 o.y, .int .i64 o.w, .int .i64 o.h, .slice o.l.a o.l.n o.l.c] 33) = W at *
 generalize w.heap.size = g at *
 clear hYg HW hY
 rcases hr with ⟨rfl, _⟩ | ⟨gd, P, s, rfl, _, _⟩
 all_goals
  have oc := hO.oc
  have c0 := oc.c0
  have l0 := oc.lt
  go_wp2_with fail
  refine (HP.out _).mono ?_
  rintro e W1 ⟨rfl, hW2⟩
  obtain rfl : W1 = W := hW2
  clear HP c0 l0 oc
  have hpt := hO.parts.2.2
  have hlt := hO.lt
  obtain ⟨t0, t1, t2, t3, t4, t5, t6, t7, t8, t9⟩ := hO.oc
  have CA := hid (syncs_any (hO.two (Nat.le_refl _)) hm o ⟨ok.k, ok.id, ok.a, ok.b, ok.x, ok.y, ok.w_, ok.h, HOKL.out⟩)
  clear hO
  go_wp2_with fail
  refine CA.out.mono ?_
  rintro e W2 ⟨rfl, F2, hF2⟩
  have HF := hid hF2
  clear hF2 CA
  go_wp2
  go_ret
  exact ⟨rfl, _, HF.out⟩
end
section
variable {es : List Addr} {w0 w w' : World} {p q mm : Nat} {F : Fo}
theorem step_any (h : B2q es w0 p q mm F w) (hm : mm ≤ 890) (o : Oq) (ok : o.Ok w0) (hn : o.l.n ≤ 20) :
  Calls Tryz.prog 7 #[.pointer (some ⟨p, 0, none⟩), .pointer (some ⟨q, 0, none⟩), .agg #[.int .i64 o.k, .int .i64 o.id, .int .i64 o.a, .int .i64 o.b, .int .i64 o.x, .int .i64 o.y, .int .i64 o.w, .int .i64 o.h, .slice o.l.a o.l.n o.l.c]] w (StR es w0 p q mm) := by
 have hlo : ∀ y, o.l.a = some y → 0 < o.l.n → y.block < w0.heap.size := fun y hy h0 => by
  obtain ⟨b, off, e, h1, _⟩ := ok.l.pl h0
  rw [e] at hy
  cases hy
  exact h1
 have okw : o.Ok w := ⟨ok.k, ok.id, ok.a, ok.b, ok.x, ok.y, ok.w_, ok.h, ok.l.on h.bel⟩
 have hb := plc_lt o.k 19 (by omega)
 rcases (by omega : plc o.k 19 = 0 ∨ plc o.k 19 = 1 ∨ plc o.k 19 = 2 ∨ plc o.k 19 = 3 ∨ plc o.k 19 = 4 ∨ plc o.k 19 = 5 ∨ plc o.k 19 = 6 ∨ plc o.k 19 = 7 ∨ plc o.k 19 = 8 ∨ plc o.k 19 = 9 ∨ plc o.k 19 = 10 ∨ plc o.k 19 = 11 ∨ plc o.k 19 = 12 ∨ plc o.k 19 = 13 ∨ plc o.k 19 = 14 ∨ plc o.k 19 = 15 ∨ plc o.k 19 = 16 ∨ plc o.k 19 = 17 ∨ plc o.k 19 = 18) with e | e | e | e | e | e | e | e | e | e | e | e | e | e | e | e | e | e | e
 ·exact stp_add h hm o okw e
 ·exact stp_drp h hm o okw e
 ·exact stp_sub2 h hm o okw e
 ·exact stp_sub3 h hm o okw e
 ·exact stp_uns h hm o okw e
 ·exact stp_att h hm o okw e
 ·exact stp_dmg h hm o okw e
 ·exact stp_frm h hm o okw e
 ·by_cases hz : bits .and .i64 o.a 1 = 0
  ·exact stp_inpa h hm o okw e hn ok.l hlo hz
  ·exact stp_inpr h hm o okw e hn ok.l hlo hz
 ·exact stp_pos h hm o okw e
 ·exact stp_abv h hm o okw e
 ·exact stp_blw h hm o okw e
 ·exact stp_syn h hm o okw e
 ·exact stp_com13 h hm o okw e
 ·exact stp_com14 h hm o okw e
 ·exact stp_com15 h hm o okw e
 ·exact stp_com16 h hm o okw e
 ·exact stp_com17 h hm o okw e
 ·exact stp_tak h hm o okw e
end
end Go.Proofs.YtdgknofpkafppaaGreatDoor
