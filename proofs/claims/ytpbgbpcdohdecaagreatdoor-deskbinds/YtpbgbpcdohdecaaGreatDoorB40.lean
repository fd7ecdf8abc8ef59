/- Lemmas that the proof leans on. -/
import Derived.Test.YtpbgbpcdohdecaaGreatDoorB39
namespace Go.Proofs.YtpbgbpcdohdecaaGreatDoor
open Go Go.RowKit
set_option maxRecDepth 100000
set_option maxHeartbeats 1000000
section
section
variable {w w' : World}
theorem bel_drR (w : World) (q : Nat) : Below w.heap.size w (w.drewN q) := ⟨rfl, rfl, rfl, Nat.le_refl _, fun _ _ => rfl⟩
theorem infoAg : (Tryz.prog.info? 34).map (·.size) = some 3 := by kernel_rfl
theorem n_any (n : Int) (w : World) : Calls Tryz.prog 8 #[.int .i64 n] w fun e w' => e = .returned (.agg #[.int .u8 110, .int .i64 n, .string ⟨#[]⟩]) ∧ Below w.heap.size w w' := by
 have HB := hid (bel_mkR w (.cells #[.int .u8 110, .int .i64 n, .string ⟨#[]⟩] 34))
 have HF := hid (heap_alloc_new w (.cells #[.int .u8 110, .int .i64 n, .string ⟨#[]⟩] 34))
 go_enter Tryz.func8, Tryz.ntmps8
 go_wp2_with fail
 refine bodyPost_ret (results_cell_row rfl _ _ w.heap.size _ _ _ _ rfl HF.out Tryz.underlying34 rfl infoAg) rfl ?_
 exact ⟨rfl, HB.out⟩
theorem u_any (n : Int) (w : World) : Calls Tryz.prog 11 #[.int .i64 n] w fun e w' => e = .returned (.agg #[.int .u8 117, .int .i64 n, .string ⟨#[]⟩]) ∧ Below w.heap.size w w' := by
 have HB := hid (bel_mkR w (.cells #[.int .u8 117, .int .i64 n, .string ⟨#[]⟩] 34))
 have HF := hid (heap_alloc_new w (.cells #[.int .u8 117, .int .i64 n, .string ⟨#[]⟩] 34))
 go_enter Tryz.func11, Tryz.ntmps11
 go_wp2_with fail
 refine bodyPost_ret (results_cell_row rfl _ _ w.heap.size _ _ _ _ rfl HF.out Tryz.underlying34 rfl infoAg) rfl ?_
 exact ⟨rfl, HB.out⟩
theorem s_any (s : ByteArray) (w : World) : Calls Tryz.prog 12 #[.string s] w fun e w' => e = .returned (.agg #[.int .u8 115, .int .i64 0, .string s]) ∧ Below w.heap.size w w' := by
 have HB := hid (bel_mkR w (.cells #[.int .u8 115, .int .i64 0, .string s] 34))
 have HF := hid (heap_alloc_new w (.cells #[.int .u8 115, .int .i64 0, .string s] 34))
 go_enter Tryz.func12, Tryz.ntmps12
 go_wp2_with fail
 refine bodyPost_ret (results_cell_row rfl _ _ w.heap.size _ _ _ _ rfl HF.out Tryz.underlying34 rfl infoAg) rfl ?_
 exact ⟨rfl, HB.out⟩
theorem samemsg_eq (o q : Int) (x y : Option Addr) (n c c' : Nat) (l : List AV) (hx : RdA w x n c l) (hy : RdA w y n c' l) (hn : n ≤ 1000) :
  Calls Tryz.prog 10 #[.agg #[.int .i64 o, .int .i64 q, .slice x n c], .agg #[.int .i64 o, .int .i64 q, .slice y n c']] w fun e w' => e = .returned (.bool true) ∧ Below w.heap.size w w' := by
 have hlen := hx.len
 have hc1 := hx.le
 have hc2 := hx.max
 have hd1 := hy.le
 have hd2 := hy.max
 simp only [maxLen] at hc2 hd2
 have HX := hid hx
 have HY := hid hy
 have hv0 := heap_alloc_new w (.cells #[.int .i64 o, .int .i64 q, .slice x n c] 42)
 have hv1 := heap_alloc_new (w.alloc (.cells #[.int .i64 o, .int .i64 q, .slice x n c] 42)) (.cells #[.int .i64 o, .int .i64 q, .slice y n c'] 42)
 have hb0 := bel_mkR w (.cells #[.int .i64 o, .int .i64 q, .slice x n c] 42)
 have hb1 := bel_mkR (w.alloc (.cells #[.int .i64 o, .int .i64 q, .slice x n c] 42)) (.cells #[.int .i64 o, .int .i64 q, .slice y n c'] 42)
 have hv0' := (kp_of_below hb1 []).var hv0 (by simp)
 rw [World.size_alloc] at hv1
 have HB := hid (Below.on hb0 hb1)
 have HV0 := hid hv0'
 have HV1 := hid hv1
 clear hx hy hv0 hv1 hb0 hb1 hv0'
 go_enter Tryz.func10, Tryz.ntmps10
 go_wp2_with fail
 generalize ((w.alloc (.cells #[.int .i64 o, .int .i64 q, .slice x n c] 42)).alloc (.cells #[.int .i64 o, .int .i64 q, .slice y n c'] 42)) = W at *
 go_loopw [5] (fun k wr => ∃ j : Nat, k = .int .i64 j ∧ j ≤ n ∧ Below W.heap.size W wr) (fun k _ => n - (numOf k).toNat)
 case atStart => exact ⟨0, rfl, by omega, Below.refl _ _⟩
 case round =>
  obtain ⟨j, rfl, hj, hb⟩ := hrel
  have hm0 := (kp_of_below hb []).var HV0.out (by simp)
  have hm1 := (kp_of_below hb []).var HV1.out (by simp)
  have c0 : wr.cell? ⟨w.heap.size, 2, none⟩ = some (.slice x n c) := by rw [Lib.cell_of_heap hm0]; rfl
  have c1 : wr.cell? ⟨w.heap.size + 1, 2, none⟩ = some (.slice y n c') := by rw [Lib.cell_of_heap hm1]; rfl
  have l0 : w.heap.size < wr.heap.size := (Array.getElem?_eq_some_iff.1 hm0).1
  have l1 : w.heap.size + 1 < wr.heap.size := (Array.getElem?_eq_some_iff.1 hm1).1
  have HW := hid hb
  by_cases hgo : j < n
  ·have e1 : decide ((j : Int) < n) = true := decide_eq_true (by omega)
   have hx2 := HX.out.kpz (kp_of_below (Below.on HB.out hb) []) (by simp)
   have hy2 := HY.out.kpz (kp_of_below (Below.on HB.out hb) []) (by simp)
   obtain ⟨bs, off, rfl, hbs, hcz⟩ := hx2.plain (by omega)
   obtain ⟨bt, of2, rfl, hbt, hdz⟩ := hy2.plain (by omega)
   obtain ⟨z, hz⟩ : ∃ z, l[j]? = some z := ⟨_, List.getElem?_eq_getElem (by omega)⟩
   obtain ⟨a0, a1, a2⟩ := hcz j z hz
   obtain ⟨b0, b1, b2⟩ := hdz j z hz
   clear hb hcz hdz hm0 hm1 hx2 hy2 hz
   have HDW := hid (bel_drR wr)
   go_wp2
   go_quiet (fail)
   have hbq := HDW.out nq
   generalize wr.drewN nq = W2 at *
   have HW2 := hid (Below.on HW.out hbq)
   clear hbq
   go_wp2
   go_roundw
   case rel => exact ⟨j + 1, by go_num, by omega, HW2.out⟩
   case measure => simp [numOf]; omega
  ·obtain rfl : j = n := by omega
   have e1 : decide ((j : Int) < j) = false := decide_eq_false (by omega)
   clear hb hm0 hm1
   go_wp2
   go_ret
   exact ⟨rfl, Below.on HB.out HW.out⟩
end
end
section
theorem putZ_zero {o q : Int} {l : List AV} {s : List UInt8} (h : putE_WireE o q l s = 0) : chk_WireB o q l s = true ∧ (pas l).length ≤ 4088 ∧ okArgs l s = true ∧ 1 ≤ o ∧ o ≤ 4294967295 ∧ 0 ≤ q ∧ q ≤ 65535 := by
 unfold putE_WireE at h
 split at h
 ·rename_i hc
  split at h
  ·cases h
  ·have hc' := hc
   rw [chk_WireB, Bool.and_eq_true] at hc'
   have hh : 1 ≤ o ∧ o ≤ 4294967295 ∧ 0 ≤ q ∧ q ≤ 65535 := by simpa [headOk] using hc'.1
   exact ⟨hc, by omega, hc'.2, hh⟩
 ·cases h
theorem putz_got {o q : Int} {l : List AV} {s : List UInt8} (h : putE_WireE o q l s = 0) : gotE o q (pas l) s = 0 ∧ gotL o q (pas l) s = l := by
 obtain ⟨hc, _, ho, _⟩ := putZ_zero h
 have hg := gets_in l s ho [] []
 rw [List.nil_append, List.append_nil, List.length_nil, Nat.zero_add] at hg
 have e0 : gotE o q (pas l) s = 0 := by
  rw [gotE, hg, if_neg (by simp), if_neg (by simp), hc]
  rfl
 exact ⟨e0, by rw [gotL, if_pos e0, hg]⟩
end
section
section
variable {es : List Addr} {w0 w w' : World} {a : Da} {c : Ca} {i : Int} {k k1 k' : Kl} {mm n : Nat} {d d' : Dsk} {X Z : List Nat}
def l11 : List AV := [anm 110 2]
def kR0 : Kl := { kl0 with ids := addS s0 2 2 1 }
def kR : Kl := kregs kR0 2 5
theorem l11_put : putE_WireE 1 1 l11 (kdz l11) = 0 := by decide
theorem l11_got : gotE 1 1 (pas l11) (rqS 1 1) = 0 ∧ gotL 1 1 (pas l11) (rqS 1 1) = l11 := putz_got l11_put
theorem add_11 {u u' : World} {e : Ending} (h : AddR es w0 c i kl0 X u 1 1 1 l11 e u') : e = .returned .nilIface ∧ Nx (Tcl w0 c i kR0) X u u' := by
 have e1 : adF 1 1 l11 = 2 := by decide
 have e2 : adV kl0 1 1 l11 = 1 := by decide
 have e3 : addE_IdsA kl0.ids (mdO l11) 2 1 = 0 := by decide
 rw [AddR, if_neg (by simp), if_neg (by rw [e1]; decide), AddT, e1, e2, if_pos e3] at h
 exact h
theorem reg_any (hA : All w0 es) (hE : Errs w0 gerrs es) (hG : Glb w0) (h : Dke es w0 a mm d w Z) (hk : d.kli i = some kl0) (hc : a.cs[(i - 1).toNat]? = some (some c)) (hi : -9223372036854775808 ≤ i ∧ i ≤ 9223372036854775807) (hm : mm + 1 ≤ 900) (hu : d.us = []) (hf : d.fo = []) :
  Calls Tryz.prog 6 #[ptz a.p, .int .i64 i, .agg #[.int .i64 1, .int .i64 1, .string ⟨(pas l11).toArray⟩]] w fun e w' => e = .returned .nilIface ∧ Nx (Dke es w0 a (mm + 1) (d.kput i kR)) Z w w' :=
 Hnd_nil (d' := d.kput i kR) h hk hc hi 1 1 ⟨(pas l11).toArray⟩ hu hf fun u hb =>
  hnd_ok hA hE hG ((dt_ft es w0 a mm d).on h hb) hk hc 1 1 (by decide) ⟨(pas l11).toArray⟩ (by decide) 1 (by decide) (by decide) (by decide) (by decide) l11 l11_got.1 l11_got.2 (by simp) kR0 rfl (fun X w e w' h => add_11 h) (mm + 1) (d.kput i kR) fun u Y x m cc hD hr => by
   have hl : l11.length = m := hr.len
   have := do_reg hD (Dsk.kli_put hk) hc hm (hG.on (dke_bel hD)) 1 x m cc l11 hr (by rw [← hl]; decide)
   rw [Dsk.kput_kput] at this
   exact this
def l20 (n K v : Int) : List AV := [anm 117 n, ⟨115, 0, ⟨(nmS K).toArray⟩⟩, anm 117 v, anm 110 9]
theorem nmS_ok : ∀ K : Fin 18, suchB 115 0 (nmS (K : Nat)) = true ∧ (putl (nmS (K : Nat) ++ [0])).length ≤ 100 ∧ (nmS (K : Nat)).length ≤ 100 := by decide
theorem l20_put {n K v : Int} (hn : 0 ≤ n ∧ n ≤ 6) (hK : 1 ≤ K ∧ K ≤ 17) (hv : 0 ≤ v ∧ v ≤ 6) : putE_WireE 2 0 (l20 n K v) (kdz (l20 n K v)) = 0 := by
 obtain ⟨j, hj⟩ : ∃ j : Fin 18, K = (j : Nat) := ⟨⟨K.toNat, by omega⟩, by simp; omega⟩
 subst hj
 obtain ⟨h1, h2, h3⟩ := nmS_ok j
 have hc : chk_WireB 2 0 (l20 n (j : Nat) v) (kdz (l20 n (j : Nat) v)) = true := by
  rw [chk_WireB, l20, kdz]
  simp only [headOk, okArgs, okArg, anm, AV.t, List.map_cons, List.map_nil, h1]
  have sn : suchB 117 n [] = true := by simp [suchB]; omega
  have sv : suchB 117 v [] = true := by simp [suchB]; omega
  rw [sn, sv]
  rfl
 have hl : (pas (l20 n (j : Nat) v)).length ≤ 4088 := by
  have e : pas (l20 n (j : Nat) v) = le4 (m32 n) ++ (putl (nmS (j : Nat) ++ [0]) ++ (le4 (m32 v) ++ (le4 (m32 9) ++ []))) := rfl
  rw [e]
  simp only [List.length_append, le4, List.length_cons, List.length_nil]
  omega
 rw [putE_WireE, if_pos hc, if_neg (by omega)]
theorem nm_inj0 : ∀ K J : Fin 18, (nmS (K : Nat) == nmS (J : Nat)) = decide (J = K) := by decide
theorem nm_inj (K J : Fin 18) : ((⟨(nmS (K : Nat)).toArray⟩ : ByteArray).toList == (⟨(nmS (J : Nat)).toArray⟩ : ByteArray).toList) = decide (J = K) := by
 rw [← nm_inj0]
 simp
theorem glF_fin (j : Nat) : ∃ J : Fin 18, glF j = (J : Nat) := by
 rcases Nat.lt_or_ge j 5 with h | h
 ·match j, h with
  | 0, _ => exact ⟨4, rfl⟩
  | 1, _ => exact ⟨5, rfl⟩
  | 2, _ => exact ⟨10, rfl⟩
  | 3, _ => exact ⟨12, rfl⟩
  | 4, _ => exact ⟨15, rfl⟩
 ·exact ⟨0, by rw [glF, List.getD_eq_getElem?_getD, List.getElem?_eq_none (by simp [glT]; omega)]; rfl⟩
theorem fin_of {K : Int} (hK : 1 ≤ K ∧ K ≤ 17) : ∃ j : Fin 18, K = (j : Nat) := ⟨⟨K.toNat, by omega⟩, by simp; omega⟩
theorem bnd_l20 {n K v : Int} (hK : 1 ≤ K ∧ K ≤ 17) : bndB (l20 n K v) = (decide (1 ≤ n) && (decide (n ≤ 5) && (decide (glF (n - 1).toNat = K) && (decide (1 ≤ v) && decide (v ≤ glV (n - 1).toNat))))) := by
 obtain ⟨k, hk⟩ := fin_of hK
 obtain ⟨j, hj⟩ := glF_fin (n - 1).toNat
 have e : bndB (l20 n K v) = (decide (1 ≤ n) && (decide (n ≤ 5) && (((⟨(nmS K).toArray⟩ : ByteArray).toList == (⟨(nmS (glF (n - 1).toNat)).toArray⟩ : ByteArray).toList) && (decide (1 ≤ v) && decide (v ≤ glV (n - 1).toNat))))) := rfl
 rw [e, hj, hk, nm_inj]
 have e2 : decide (j = k) = decide (((j : Nat) : Int) = ((k : Nat) : Int)) := by
  rw [Bool.eq_iff_iff]
  simp only [decide_eq_true_eq]
  omega
 rw [e2]
theorem face_nm : ∀ K : Fin 18, 1 ≤ (K : Nat) → faceOf ⟨(nmS (K : Nat)).toArray⟩ = K := by decide
def kRe : Kl := { kR with ev := [] }
theorem kRe_9 : kRe.ids 9 = (0, 0) := by decide
def kB (K v : Int) : Kl := { kRe with ids := addS kRe.ids 9 K v }
theorem kgreet_ids (k : Kl) (id : Int) : (kgreet k id).ids = k.ids := by
 unfold kgreet
 split
 ·rfl
 ·split <;> rfl
theorem kB_9 {K v : Int} (hK : 1 ≤ K ∧ K ≤ 17) (hv : 1 ≤ v) : addE_IdsA kRe.ids 9 K v = 0 ∧ ((kgreet (kB K v) 9).ids 9).1 = K := by
 have e : addE_IdsA kRe.ids 9 K v = 0 := by
  rw [addE_IdsA, if_neg (by omega), if_neg (by rw [kRe_9]; decide)]
 refine ⟨e, ?_⟩
 rw [kgreet_ids, kB]
 show ((addS kRe.ids 9 K v) 9).1 = K
 rw [addS, if_pos e]
 simp [upd_IdsA]
theorem addB_ok {n K v : Int} (hK : 1 ≤ K ∧ K ≤ 17) (hv : 1 ≤ v) (hB : bndB (l20 n K v) = true) {u u' : World} {e : Ending} (h : AddR es w0 c i kRe X u 2 0 2 (l20 n K v) e u') : e = .returned .nilIface ∧ Nx (Tcl w0 c i (kB K v)) X u u' := by
 obtain ⟨k, hk⟩ := fin_of hK
 have e1 : adF 2 0 (l20 n K v) = K := by
  have := face_nm k (by omega)
  rw [hk]
  show ((faceOf ⟨(nmS ((k : Nat) : Int)).toArray⟩ : Nat) : Int) = ((k : Nat) : Int)
  rw [this]
 have e2 : adV kRe 2 2 (l20 n K v) = v := rfl
 have e3 : mdO (l20 n K v) = 9 := rfl
 rw [AddR, if_neg (fun h => Bool.noConfusion (h.2.symm.trans hB)), if_neg (by rw [e1]; omega), AddT, e1, e2, e3, if_pos (kB_9 hK hv).1] at h
 exact h
theorem add_bad {n K v : Int} (hB : bndB (l20 n K v) = false) {u u' : World} {e : Ending} (h : AddR es w0 c i kRe X u 2 0 2 (l20 n K v) e u') : e = .returned (erv es 1) ∧ Nx (Tcl w0 c i kRe) X u u' := by
 rw [AddR, if_pos ⟨rfl, hB⟩] at h
 exact h
theorem bind_ok (hA : All w0 es) (hE : Errs w0 gerrs es) (hG : Glb w0) (h : Dke es w0 a mm d w Z) (hk : d.kli i = some kRe) (hc : a.cs[(i - 1).toNat]? = some (some c)) (hi : -9223372036854775808 ≤ i ∧ i ≤ 9223372036854775807) (hm : mm + 1 ≤ 900) (hu : d.us = []) (hf : d.fo = [])
  {n K v : Int} (hn : 0 ≤ n ∧ n ≤ 6) (hK : 1 ≤ K ∧ K ≤ 17) (hv : 0 ≤ v ∧ v ≤ 6) (hv1 : 1 ≤ v) (hB : bndB (l20 n K v) = true) :
  Calls Tryz.prog 6 #[ptz a.p, .int .i64 i, .agg #[.int .i64 2, .int .i64 0, .string ⟨(pas (l20 n K v)).toArray⟩]] w fun e w' => e = .returned .nilIface ∧ Nx (Dke es w0 a (mm + 1) (d.kput i (kgreet (kB K v) 9))) Z w w' := by
 obtain ⟨g1, g2⟩ := putz_got (l20_put hn hK hv)
 have hz := (putZ_zero (l20_put hn hK hv)).2.1
 exact Hnd_nil (d' := d.kput i (kgreet (kB K v) 9)) h hk hc hi 2 0 ⟨(pas (l20 n K v)).toArray⟩ hu hf fun u hb =>
  hnd_ok hA hE hG ((dt_ft es w0 a mm d).on h hb) hk hc 2 0 (by decide) ⟨(pas (l20 n K v)).toArray⟩ (by simp only [ByteArray.size, List.size_toArray]; omega) 2 (by decide) (by decide) (by decide) (by decide) (l20 n K v) g1 g2 (by simp [l20]) (kB K v) rfl (fun X w e w' h => addB_ok hK hv1 hB h) (mm + 1) (d.kput i (kgreet (kB K v) 9)) fun u Y x m cc hD hr => by
   have hl : (l20 n K v).length = m := hr.len
   have := do_greet hE hD (Dsk.kli_put hk) hc hm 2 0 x m cc (l20 n K v) hr (by rw [← hl]; simp [l20])
   rw [Dsk.kput_kput] at this
   exact this
theorem bind_no (hA : All w0 es) (hE : Errs w0 gerrs es) (hG : Glb w0) (h : Dke es w0 a mm d w Z) (hk : d.kli i = some kRe) (hc : a.cs[(i - 1).toNat]? = some (some c)) (hi : -9223372036854775808 ≤ i ∧ i ≤ 9223372036854775807)
  {n K v : Int} (hn : 0 ≤ n ∧ n ≤ 6) (hK : 1 ≤ K ∧ K ≤ 17) (hv : 0 ≤ v ∧ v ≤ 6) (hB : bndB (l20 n K v) = false) :
  Calls Tryz.prog 6 #[ptz a.p, .int .i64 i, .agg #[.int .i64 2, .int .i64 0, .string ⟨(pas (l20 n K v)).toArray⟩]] w fun e w' => ∃ x, e = .returned x ∧ FtV w' es x 2 1 ∧ Nx (Dke es w0 a mm d) Z w w' := by
 obtain ⟨g1, g2⟩ := putz_got (l20_put hn hK hv)
 have hz := (putZ_zero (l20_put hn hK hv)).2.1
 exact Hnd_bare hA h hk hc hi 2 0 ⟨(pas (l20 n K v)).toArray⟩ 1 (by decide) (by decide) fun u hb => by
  obtain ⟨X, hX, _, hN⟩ := (ldt_cl (k' := kRe) hk hc (fun hok => hok.kput_ i (Nat.le_refl _) hok.mx (hok.evl hk)) : Ln (Dke es w0 a mm d) (Tcl w0 c i kRe) (Dke es w0 a mm (d.kput i kRe)) (Tcl w0 c i kRe)) u Z ((dt_ft es w0 a mm d).on h hb)
  have e : d.kput i kRe = d := by rw [Dsk.kput, set_same_DpF (Dsk.kli_at hk).2]
  rw [e] at hN
  exact (hnd_arg hA hE hG hX (ptz a.p) 2 0 (by decide) ⟨(pas (l20 n K v)).toArray⟩ (by simp only [ByteArray.size, List.size_toArray]; omega) 2 (by decide) (by decide) (by decide) (l20 n K v) g1 g2 (by simp [l20]) 1 (by decide) (fun X w e w' h => add_bad hB h)).mono fun e w' ⟨q1, q2⟩ => ⟨q1, hN w' q2⟩
theorem noneD_any (hA : All w0 es) (hE : Errs w0 gerrs es) (h : Dke es w0 a mm d w Z) (hk : d.kli i = some k) (hc : a.cs[(i - 1).toNat]? = some (some c)) (hi : -9223372036854775808 ≤ i ∧ i ≤ 9223372036854775807) (o q : Int) (ho : -9223372036854775808 ≤ o ∧ o ≤ 9223372036854775807) (t : ByteArray) (hF : (k.ids o).1 = 0) :
  Calls Tryz.prog 6 #[ptz a.p, .int .i64 i, .agg #[.int .i64 o, .int .i64 q, .string t]] w fun e w' => ∃ v, e = .returned v ∧ FtV w' es v 1 5 ∧ Nx (Dke es w0 a mm d) Z w w' :=
 Hnd_ft hA h hk hc hi o q t 1 5 fun u hb => by
  obtain ⟨c', hc', X, hX, _⟩ := ((dt_ft es w0 a mm d).on h hb).clt hk
  obtain rfl : c' = c := by rw [hc] at hc'; cases hc'; rfl
  exact hnd_none hA hE hX (ptz a.p) o q ho t hF
end
end
section
section
variable {B base : Nat} {l l' : List Th} {w w' : World} {C : Th} {X : List Nat}
def Grw (B base : Nat) (l : List Th) (w : World) : Prop := ∃ Z, alls l w Z ∧ (∀ A ∈ l, Ft B A) ∧ ∀ b ∈ Z, base ≤ b
theorem grw_nil : Grw B base [] w := ⟨[], rfl, by simp, by simp⟩
theorem Grw.add (h : Grw B base l w) (hb : Below w.heap.size w w') (hn : base ≤ w.heap.size) (hF : Ft B C) (hC : C w' X) (hX : ∀ b ∈ X, w.heap.size ≤ b) : Grw B base (C :: l) w' := by
 obtain ⟨Z, h1, h2, h3⟩ := h
 refine ⟨X ++ Z, alls_new h2 h1 hb hC hX, fun A hA => ?_, fun b hb => ?_⟩
 ·rcases List.mem_cons.1 hA with rfl | hA
  ·exact hF
  ·exact h2 A hA
 ·rcases List.mem_append.1 hb with hb | hb
  ·exact Nat.le_trans hn (hX b hb)
  ·exact h3 b hb
theorem Grw.perm (h : Grw B base l w) (hp : l.Perm l') : ∃ Z, alls l' w Z ∧ ∀ b ∈ Z, base ≤ b := by
 obtain ⟨Z, h1, _, h3⟩ := h
 obtain ⟨Z', h4, h5⟩ := alls_perm hp h1
 exact ⟨Z', h4, fun b hb => h3 b ((h5 b).1 hb)⟩
end
section
variable {es : List Addr} {w0 w : World} {i : Int}
theorem bel_mk (w : World) (o : Obj) : Below w.heap.size w (w.alloc o) := (Below.refl _ _).alloc (Nat.le_refl _) _
theorem Grw.map {α : Type} (R : Value → Option (DataW Unit × List MemPlace)) (dat : α → DataW Unit) (z : α) {base : Nat} {l : List Th} (h : Grw w0.heap.size base l w) (h0 : RowKit.Below w0.heap.size w0 w) (hn : base ≤ w.heap.size) : Grw w0.heap.size base (Mg R dat z w0 w.heap.size [] :: l) (w.alloc (.map #[] 0)) :=
 h.add (bel_mk w _) hn (mg_ft _ _ _ _ _ _) (mg_new h0) (fun b hb => by rw [List.mem_singleton.1 hb]; exact Nat.le_refl _)
theorem tr_new (h0 : RowKit.Below w0.heap.size w0 w) : Tr w0 w.heap.size [] (w.alloc (.map #[] 0)) [w.heap.size] := ⟨[], mg_new h0, rfl, by simp, rfl⟩
theorem tv_new (h0 : RowKit.Below w0.heap.size w0 w) (a : Ca) (hq : a.q = w.heap.size) (i : Int) : Tv w0 a i [] (w.alloc (.cells (clv a i (.slice none 0 0)) 84)) [w.heap.size] := by
 refine ⟨Below.on h0 (bel_mk w _), by rw [hq]; exact h0.size, [], .slice none 0 0, ⟨by rw [hq]; exact heap_alloc_new w _, World.ownsRow_nil _ _ _ _, by simp, by simp, by simp [Value.ownBlock]⟩, rfl, ?_⟩
 simp [tvb, Value.ownBlock, hq]
theorem newc_any (h0 : RowKit.Below w0.heap.size w0 w) (i : Int) : Calls Tryz.prog 26 #[.int .i64 i] w fun e w' => ∃ c X, e = .returned (ptz c.q) ∧ Tcl w0 c i kl0 w' X ∧ Below w.heap.size w w' ∧ (∀ b ∈ X, w.heap.size ≤ b) := by
 have H0 := hid h0
 have hmm := @run_makeMap Tryz.prog
 have hs := h0.size
 clear h0
 go_enter Tryz.func26, Tryz.ntmps26
 go_wp2_with fail
 refine (ti_new H0.out).mono ?_
 rintro e w1 ⟨p1, X1, rfl, h1, b1, n1⟩
 have G1 := hid ((grw_nil (B := w0.heap.size) (base := w.heap.size)).add b1 (Nat.le_refl _) (ti_ft w0 p1 s0) h1 n1)
 have B1 := hid b1
 clear h1 b1 n1
 go_wp2_with fail
 refine (tm_new (Below.on H0.out B1.out)).mono ?_
 rintro e w2 ⟨p2, X2, rfl, h1, b1, n1⟩
 have G2 := hid (G1.out.add b1 B1.out.size (tm_ft w0 p2 _) h1 n1)
 have B2 := hid (Below.on B1.out b1)
 clear h1 b1 n1 G1 B1
 go_wp2_with fail
 refine (tg_new (Below.on H0.out B2.out)).mono ?_
 rintro e w3 ⟨p3, X3, rfl, h1, b1, n1⟩
 have G3 := hid (G2.out.add b1 B2.out.size (tg_ft w0 p3 _) h1 n1)
 have B3 := hid (Below.on B2.out b1)
 clear h1 b1 n1 G2 B2
 have hs3 := B3.out.size
 have Q3 := hid (Below.on H0.out B3.out)
 have G4 := hid (G3.out.map mzR mzd 0 Q3.out hs3)
 have B4 := hid (Below.on B3.out (bel_mk w3 (.map #[] 0)))
 have G5 := hid (G4.out.map mzR mzd 0 (Below.on H0.out B4.out) B4.out.size)
 have B5 := hid (Below.on B4.out (bel_mk _ (.map #[] 0)))
 have G6 := hid (G5.out.add (bel_mk _ (.map #[] 0)) B5.out.size (tr_ft w0 _ _) (tr_new (Below.on H0.out B5.out)) (fun b hb => by rw [List.mem_singleton.1 hb]; exact Nat.le_refl _))
 have B6 := hid (Below.on B5.out (bel_mk _ (.map #[] 0)))
 have G7 := hid (G6.out.map mzR mzd 0 (Below.on H0.out B6.out) B6.out.size)
 have B7 := hid (Below.on B6.out (bel_mk _ (.map #[] 0)))
 have G8 := hid (G7.out.map mzR mzd 0 (Below.on H0.out B7.out) B7.out.size)
 have B8 := hid (Below.on B7.out (bel_mk _ (.map #[] 0)))
 obtain ⟨c, hc⟩ : ∃ c : Ca, c = ⟨w3.heap.size + 5, p1, p2, p3, w3.heap.size, w3.heap.size + 1, w3.heap.size + 2, w3.heap.size + 3, w3.heap.size + 4⟩ := ⟨_, rfl⟩
 have G9 := hid (G8.out.add (bel_mk _ (.cells (clv c i (.slice none 0 0)) 84)) B8.out.size (tv_ft w0 c i []) (tv_new (Below.on H0.out B8.out) c (by rw [hc]; simp) i) (fun b hb => by rw [List.mem_singleton.1 hb]; exact Nat.le_refl _))
 have B9 := hid (Below.on B8.out (bel_mk _ (.cells (clv c i (.slice none 0 0)) 84)))
 have HC := hid hc
 clear G3 B3 G4 B4 G5 B5 G6 B6 G7 B7 G8 B8 hc Q3
 go_wp2
 go_ret
 have hc := HC.out
 obtain ⟨Z, hZ, hn⟩ := G9.out.perm (l' := cltT w0 c i kl0) (by
  subst hc
  simp only [World.size_alloc]
  exact (List.reverse_perm [Ti w0 p1 s0, Tm w0 p2 (fun _ => none), Tg w0 p3 none, Mzi w0 w3.heap.size [], Mzi w0 (w3.heap.size + 1) [], Tr w0 (w3.heap.size + 1 + 1) [], Mzi w0 (w3.heap.size + 1 + 1 + 1) [], Mzi w0 (w3.heap.size + 1 + 1 + 1 + 1) []]).cons _)
 refine ⟨c, Z, ?_, ?_, ?_, hn⟩
 ·rw [hc]; simp
 ·have := hZ
  subst hc
  exact this
 ·have := B9.out
  subst hc
  exact this
end
end
section
section
variable {es : List Addr} {w0 w : World}
theorem td_new (h0 : RowKit.Below w0.heap.size w0 w) (a : Da) (hp : a.p = w.heap.size) (hcs : a.cs = []) : Td w0 a 0 0 0 0 0 (w.alloc (.cells #[.slice none 0 0, .int .i64 0, .int .i64 0, .int .i64 0, ptz a.sc, ptz a.st, .map (some a.ow), .int .i64 0, ptz a.us, ptz a.fo, ptz a.sh, ptz a.sk, .map (some a.pl), .int .i64 0, ptz a.se] 72)) [w.heap.size] := by
 refine ⟨Below.on h0 (bel_mk w _), by rw [hp]; exact h0.size, .slice none 0 0, by rw [hp]; exact heap_alloc_new w _, by rw [hcs]; exact World.ownsRow_nil _ _ _ _, by simp [Value.ownBlock], ?_⟩
 simp [Value.ownBlock, hp]
def scr0 (W H : Nat) : List Int := pnc W 4279246896 [ara W H] [] [] (List.replicate (W * H) 0)
theorem dnew_any (h0 : RowKit.Below w0.heap.size w0 w) (hE : Errs w0 gerrs es) (hg : 16 ≤ w0.heap.size) (W H : Nat) (hW : 1 ≤ W ∧ W ≤ 48) (hH : 1 ≤ H ∧ H ≤ 48) :
  Calls Tryz.prog 4 #[.int .i64 (W : Nat), .int .i64 (H : Nat)] w fun e w' => ∃ a X, e = .returned (.tuple #[ptz a.p, .nilIface]) ∧ a.cs = [] ∧ Dke es w0 a 0 (ds0 W H (scr0 W H)) w' X ∧ Below w.heap.size w w' ∧ (∀ b ∈ X, w.heap.size ≤ b) := by
 have H0 := hid h0
 have HE := hid hE
 have HG := hid hg
 have hmm := @run_makeMap Tryz.prog
 have hs := h0.size
 clear h0 hE hg
 go_enter Tryz.func4, Tryz.ntmps4
 go_wp2_with fail
 refine (tc_new H0.out hW hH).mono ?_
 rintro e w1 ⟨p1, X1, rfl, h1, b1, n1⟩
 have B1 := hid b1
 have H1 := hid h1
 have N1 := hid n1
 clear h1 b1 n1
 go_wp2_with fail
 refine (tc_all H1.out 4279246896 (by unfold Col; omega) none 0 0 [] (RdM.nil 6 w1) (by simp) (fun h => absurd h (by omega)) none 0 0 [] (RdG.nil w1) ⟨fun h => absurd h (by omega), by simp⟩ (by simp)).mono ?_
 rintro e w2 ⟨rfl, hN⟩
 obtain ⟨X2, h2, k2, s2⟩ := hN
 have hs1 := B1.out.size
 have G2 : Hid (Grw w0.heap.size w.heap.size [Tc w0 p1 W H (scr0 W H)] w2) := ⟨X2, ⟨X2, [], h2, rfl, by simp, by simp⟩, by simpa using tc_ft _ _ _ _ _, fun b hb => by
  rcases s2 b hb with h | h
  ·exact N1.out b h
  ·omega⟩
 have B2 := hid (B1.out.trans (k2.below hs1 (fun b hb => N1.out b hb)))
 clear h2 k2 s2 hs1 H1 N1 B1
 go_wp2_with fail
 refine (tp_new (Below.on H0.out B2.out)).mono ?_
 rintro e w3 ⟨p3, X3, rfl, h1, b1, n1⟩
 have G3 := hid (G2.out.add b1 B2.out.size (tp_ft w0 p3 [] []) h1 n1)
 have B3 := hid (Below.on B2.out b1)
 clear h1 b1 n1 G2 B2
 have G4 := hid (G3.out.map mtR mtd [0, 0] (Below.on H0.out B3.out) B3.out.size)
 have B4 := hid (Below.on B3.out (bel_mk w3 (.map #[] 0)))
 clear G3
 go_wp2_with fail
 refine (tu_new (Below.on H0.out B4.out)).mono ?_
 rintro e w5 ⟨p5, X5, rfl, h1, b1, n1⟩
 have G5 := hid (G4.out.add b1 B4.out.size (tu_ft w0 p5 [] []) h1 n1)
 have B5 := hid (Below.on B4.out b1)
 clear h1 b1 n1 G4 B4
 go_wp2_with fail
 refine (pq_new w0 w5 (Below.on H0.out B5.out) (fe_of (HE.out.below (Below.on H0.out B5.out))) HG.out).mono ?_
 rintro e w6 ⟨p6, X6, rfl, h1, b1, n1⟩
 have G6 := hid (G5.out.add b1 B5.out.size (pq_ft es w0 p6 0 []) h1 n1)
 have B6 := hid (Below.on B5.out b1)
 clear h1 b1 n1 G5 B5
 go_wp2_with fail
 refine (sp_new w0 w6 (Below.on H0.out B6.out) HE.out).mono ?_
 rintro e w7 ⟨p7, X7, rfl, h1, b1, n1⟩
 have G7 := hid (G6.out.add b1 B6.out.size (sp_ft es w0 p7 0 []) h1 n1)
 have B7 := hid (Below.on B6.out b1)
 clear h1 b1 n1 G6 B6
 go_wp2_with fail
 refine (tk_new (Below.on H0.out B7.out)).mono ?_
 rintro e w8 ⟨p8, X8, rfl, h1, b1, n1⟩
 have G8 := hid (G7.out.add b1 B7.out.size (tk_ft w0 p8 []) h1 n1)
 have B8 := hid (Below.on B7.out b1)
 clear h1 b1 n1 G7 B7
 have G9 := hid (G8.out.map mtR mtd [0, 0, 0] (Below.on H0.out B8.out) B8.out.size)
 have B9 := hid (Below.on B8.out (bel_mk w8 (.map #[] 0)))
 clear G8
 go_wp2_with fail
 refine (ts_new (Below.on H0.out B9.out)).mono ?_
 rintro e w10 ⟨p10, X10, rfl, h1, b1, n1⟩
 have G10 := hid (G9.out.add b1 B9.out.size (ts_ft w0 p10 0 0 0 0) h1 n1)
 have B10 := hid (Below.on B9.out b1)
 clear h1 b1 n1 G9 B9
 obtain ⟨a, ha⟩ : ∃ a : Da, a = ⟨w10.heap.size, p1, p3, w3.heap.size, p5, p6, p7, p8, w8.heap.size, p10, []⟩ := ⟨_, rfl⟩
 have G11 := hid (G10.out.add (bel_mk w10 _) B10.out.size (td_ft w0 a 0 0 0 0 0) (td_new (Below.on H0.out B10.out) a (by rw [ha]) (by rw [ha])) (fun b hb => by rw [List.mem_singleton.1 hb]; exact Nat.le_refl _))
 have B11 := hid (Below.on B10.out (bel_mk w10 (.cells #[.slice none 0 0, .int .i64 0, .int .i64 0, .int .i64 0, ptz a.sc, ptz a.st, .map (some a.ow), .int .i64 0, ptz a.us, ptz a.fo, ptz a.sh, ptz a.sk, .map (some a.pl), .int .i64 0, ptz a.se] 72)))
 have HA := hid ha
 clear G10 B10 B3 B8 ha
 go_wp2
 go_ret2
 have ha := HA.out
 obtain ⟨Z, hZ, hn⟩ := G11.out.perm (l' := dskT es w0 a 0 (ds0 W H (scr0 W H))) (by
  subst ha
  exact (List.reverse_perm [Tc w0 p1 W H (scr0 W H), Tp w0 p3 [] [], Mt [0, 0] w0 w3.heap.size [], Tu w0 p5 [] [], Pq_PgT es w0 p6 0 [], Sp es w0 p7 0 [], Tk w0 p8 [], Mt [0, 0, 0] w0 w8.heap.size [], Ts_ThP w0 p10 0 0 0 0]).cons _)
 refine ⟨a, Z, ?_, ?_, ⟨⟨dok0 W H _, ?_, ?_⟩, Z, [], ?_, ?_, by simp, by simp⟩, ?_, hn⟩
 ·rw [ha]; rfl
 ·rw [ha]
 ·rw [ha]; exact ⟨rfl, by simp [ds0]⟩
 ·intro j hj; simp [ds0] at hj
 ·have := hZ
  subst ha
  exact this
 ·rw [ha]
  exact rfl
 ·have := B11.out
  subst ha
  exact this
end
end
end Go.Proofs.YtpbgbpcdohdecaaGreatDoor
