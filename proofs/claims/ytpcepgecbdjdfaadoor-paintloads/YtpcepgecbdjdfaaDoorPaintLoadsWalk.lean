/- PaintLoads: for every number, buffer, memory, place, bytes and images the call returns true; nothing that was there has turned. Written by paint/mk_loads.py. -/
import Derived.Test.YtpcepgecbdjdfaaDoorBj
import Derived.Test.YtpcepgecbdjdfaaDoorBh
import Derived.Test.YtpcepgecbdjdfaaDoorBa
import Derived.LaidMore
namespace Go.Proofs.YtpcepgecbdjdfaaDoor.paintLoads
open Go Go.RowKit

theorem ldr_same {W1 H1 W2 H2 : Int} {l1 l2 : List Int} {B : List UInt8} {off wd_ h st fm : Int}
    (h1 : if rmE 65536 off wd_ h st fm = 0 then W1 = wd_ ∧ H1 = h ∧ l1 = ldL B off.toNat st.toNat wd_.toNat fm (wd_.toNat * h.toNat) else W1 = 0 ∧ H1 = 0 ∧ l1 = [])
    (h2 : if rmE 65536 off wd_ h st fm = 0 then W2 = wd_ ∧ H2 = h ∧ l2 = ldL B off.toNat st.toNat wd_.toNat fm (wd_.toNat * h.toNat) else W2 = 0 ∧ H2 = 0 ∧ l2 = []) : W1 = W2 ∧ H1 = H2 ∧ l1 = l2 ∧ l1.length ≤ 16384 := by
  by_cases hr : rmE 65536 off wd_ h st fm = 0
  · rw [if_pos hr] at h1 h2
    obtain ⟨a1, a2, a3⟩ := h1
    obtain ⟨b1, b2, b3⟩ := h2
    refine ⟨a1.trans b1.symm, a2.trans b2.symm, a3.trans b3.symm, ?_⟩
    obtain ⟨O, W, H, S, rfl, rfl, rfl, rfl, hW, hH, hS, hO, _⟩ := rm_nat hr
    rw [a3, ldL_length]
    simp only [Int.toNat_natCast]
    have h1 : 4 * W * H ≤ S * H := Nat.mul_le_mul_right H hS
    rw [Nat.mul_assoc] at h1
    omega
  · rw [if_neg hr] at h1 h2
    obtain ⟨a1, a2, a3⟩ := h1
    obtain ⟨b1, b2, b3⟩ := h2
    refine ⟨a1.trans b1.symm, a2.trans b2.symm, a3.trans b3.symm, ?_⟩
    rw [a3]
    exact Nat.zero_le _
theorem rd_on {w x : World} {a : Option Addr} {n c : Nat} {l : List UInt8} (h : Rd w a n c l) (hb : Below w.heap.size w x) : Rd x a n c l := h.below hb (rd_low h)
theorem wrS_blk {s : Int → Mo} {k' j : Int} {l : List UInt8} {B : Nat} (h : ∀ k r, s k = some r → r.1 = B) : ∀ k r, wrS s k' j l k = some r → r.1 = B := fun k r hr => by
  cases e : s k' with
  | none =>
    have : wrS s k' j l = s := by rw [wrS, e]
    rw [this] at hr
    exact h k r hr
  | some q =>
    by_cases hm : minn q.2.length j l.length = true
    · have : wrS s k' j l = mupd s k' (some (q.1, wro q.2 j.toNat l)) := by
        rw [wrS, e]
        exact if_pos hm
      rw [this] at hr
      by_cases ek : k = k'
      · rw [ek, mupd_same] at hr
        cases hr
        exact h k' q e
      · rw [mupd_other _ ek] at hr
        exact h k r hr
    · have : wrS s k' j l = s := by
        rw [wrS, e]
        exact if_neg hm
      rw [this] at hr
      exact h k r hr
/-- Of lists that say the same the first ones do. -/
theorem gf_same {k : Int} {hs gs : List Gv} (h : hs.map gcl = gs.map gcl) : ∃ (b w h' : Int) (l : List Int) (s : Bool), ((gf k hs).getD gz).b = b ∧ ((gf k hs).getD gz).w = w ∧ ((gf k hs).getD gz).h = h' ∧ ((gf k hs).getD gz).l = l ∧ (gf k hs).isSome = s ∧ ((gf k gs).getD gz).b = b ∧ ((gf k gs).getD gz).w = w ∧ ((gf k gs).getD gz).h = h' ∧ ((gf k gs).getD gz).l = l ∧ (gf k gs).isSome = s := by
  have h1 := gf_imf k hs
  have h2 := gf_imf k gs
  rw [h, h2] at h1
  cases e1 : gf k hs with
  | none =>
    cases e2 : gf k gs with
    | none => exact ⟨_, _, _, _, _, rfl, rfl, rfl, rfl, rfl, rfl, rfl, rfl, rfl, rfl⟩
    | some g2 => rw [e1, e2] at h1; cases h1
  | some g1 =>
    cases e2 : gf k gs with
    | none => rw [e1, e2] at h1; cases h1
    | some g2 =>
      rw [e1, e2] at h1
      simp only [Option.map_some, Option.some.injEq, gcl, Im.mk.injEq] at h1
      obtain ⟨q1, q2, q3, q4⟩ := h1
      exact ⟨_, _, _, _, _, rfl, rfl, rfl, rfl, rfl, q1, q2, q3, q4, rfl⟩

set_option maxRecDepth 100000 in
set_option maxHeartbeats 16000000 in
theorem core (a0 m0 m1 m2 m3 m4 m5 a2 a3 a4 : Int) (a5 : Option Addr) (n5 c5 : Nat) (l5 : List UInt8) (a6 : Option Addr) (n6 c6 : Nat) (l6 : List Gv) (w : World) (wm : ∀ k ∈ [m0, m1, m2, m3, m4, m5], (Lit.int .i64 k).wf = true) (i2 : I64 a2) (i4 : I64 a4) (hr : Rd w a5 n5 c5 l5) (w6 : RdG w a6 n6 c6 l6) (es : List Addr) (hE : E4q w es) :
    Calls Tryd.prog 3 #[.int .i64 a0, .agg #[.int .i64 m0, .int .i64 m1, .int .i64 m2, .int .i64 m3, .int .i64 m4, .int .i64 m5], .int .i64 a2, .int .i64 a3, .int .i64 a4, .slice a5 n5 c5, .slice a6 n6 c6] w fun e w' => e = .returned (.bool true) ∧ Below w.heap.size w w' := by
  have k0 : I64 m0 := wfi (wm m0 (by simp))
  have k1 : I64 m1 := wfi (wm m1 (by simp))
  have k2 : I64 m2 := wfi (wm m2 (by simp))
  have k3 : I64 m3 := wfi (wm m3 (by simp))
  have k4 : I64 m4 := wfi (wm m4 (by simp))
  have k5 : I64 m5 := wfi (wm m5 (by simp))
  have hA := bel_new w (.cells #[.int .i64 m0, .int .i64 m1, .int .i64 m2, .int .i64 m3, .int .i64 m4, .int .i64 m5] 23)
  have hI := bk_new w #[.int .i64 m0, .int .i64 m1, .int .i64 m2, .int .i64 m3, .int .i64 m4, .int .i64 m5] 23
  obtain ⟨U, hU⟩ : ∃ U, U = w.alloc (.cells #[.int .i64 m0, .int .i64 m1, .int .i64 m2, .int .i64 m3, .int .i64 m4, .int .i64 m5] 23) := ⟨_, rfl⟩
  have hsU : U.heap.size = w.heap.size + 1 := by rw [hU, size_new]
  rw [← hU] at hA hI
  have HA := hid hA
  have HI := hid hI
  have HU := hid hU
  have HE := hid hE
  have HR := hid hr
  have HG := hid w6
  have h5c := hr.le
  have h5m := hr.max
  simp only [maxLen] at h5m
  have CR := hid (rroom_any 65536 m1 m2 m3 m4 m5 U (by decide) k1 k2 k3 k4)
  obtain ⟨zs, hzs, hz⟩ : ∃ zs, zs = dmc (fun _ => none) ∧ ∀ w, (zeroValue 34).run Tryd.prog w = .ok (.agg zs) w := ⟨_, rfl, zM⟩
  have hz1 : zs.size = 512 := by rw [hzs, dmc_size]
  have hz2 : ¬ zs = #[] := fun h => by rw [h] at hz1; cases hz1
  have HZS := hid hzs
  have HT := hid (And.intro hI.cell hI.fz)
  clear hA hI hU hr w6 hE hzs wm
  by_cases h5 : 3000 < n5
  · have e1 : decide ((3000 : Int) < n5) = true := decide_eq_true (by omega)
    go_enter Tryd.func3, Tryd.ntmps3
    go_wp2_with fail
    rw [← HU.out]
    refine (pawake23_any _).mono ?_
    rintro e x5 ⟨rfl, hb5⟩
    have HB5 := hid (Below.on HA.out hb5)
    go_wp2
    go_ret
    exact ⟨rfl, HB5.out⟩
  have e1 : decide ((3000 : Int) < n5) = false := decide_eq_false (by omega)
  have t1 := HI.out.cell 1
  have t2 := HI.out.cell 2
  have t3 := HI.out.cell 3
  have t4 := HI.out.cell 4
  have t5 := HI.out.cell 5
  cases hrm : rmE 65536 m1 m2 m3 m4 m5 with
  | succ k =>
    rw [hrm] at CR
    have hk1 : (((k + 1 : Nat) : Int) == 0) = false := by simp; omega
    obtain ⟨K1, hK1⟩ : ∃ K1 : Int, ((k + 1 : Nat) : Int) = K1 := ⟨_, rfl⟩
    rw [hK1] at CR hk1
    clear hK1 hrm
    go_enter Tryd.func3, Tryd.ntmps3
    go_wp2_with fail
    rw [← HU.out]
    refine CR.out.mono ?_
    rintro e u1 ⟨rfl, hu1⟩
    obtain rfl : U = u1 := hu1.symm
    clear HU CR
    go_wp2_with fail
    clear t1 t2 t3 t4 t5 HT
    refine (msnew_at HA.out).mono ?_
    rintro e y1 ⟨rfl, hM, hb1⟩
    obtain ⟨b, hb⟩ : ∃ b, U.heap.size = b := ⟨_, rfl⟩
    rw [hb] at hM ⊢
    obtain ⟨p, hp⟩ : ∃ p, b + 1 = p := ⟨_, rfl⟩
    rw [hp] at hM ⊢
    have hbz := bel_new y1 (.cells zs 34)
    have HI1 := hid ((HI.out.on hb1).on hbz)
    have HM1 := hid (hM.on hbz)
    obtain ⟨q, hq⟩ : ∃ q, y1.heap.size = q := ⟨_, rfl⟩
    have hpl := hM.mm.lt
    have hpq : p < q ∧ b < q := by omega
    have HD1 : Hid (Dm w.heap.size (y1.alloc (.cells zs 34)) q (fun _ => none)) := by
      have h1 := hM.bel.size
      refine ⟨by omega, ?_, (fun k h => by cases h), (fun k x h => by cases h)⟩
      rw [← hq, HZS.out]
      exact heap_alloc_new y1 _
    have hq2 : (y1.alloc (.cells zs 34)).heap.size = q + 1 := by rw [size_new, hq]
    clear hM hb1 hbz HI HA HZS hpl
    go_wp2_with fail
    obtain ⟨y2, hy2⟩ : ∃ y2, y2 = y1.alloc (.cells zs 34) := ⟨_, rfl⟩
    rw [← hy2] at HI1 HM1 HD1 hq2 ⊢
    clear hy2
    refine (HM1.out.set HE.out.e3 a2 a3).mono ?_
    rintro e y3 ⟨rfl, hM, hk⟩
    rw [hq2] at hM
    obtain ⟨s1, hs1⟩ : ∃ s1, s1 = (if setE a2 a3 = 0 then mupd (fun _ => none) a2 (some (q + 1, rsz (by_ none) a3.toNat)) else fun _ => none) := ⟨_, rfl⟩
    rw [← hs1] at hM
    have HM2 := hid hM
    have HD2 := hid (HD1.out.kept hk (by simp only [List.mem_cons, List.not_mem_nil, or_false]; omega) (fun k x j h => by cases h))
    have HI2 := hid (HI1.out.kp hk (by simp only [List.mem_cons, List.not_mem_nil, or_false]; omega))
    have HSR : Hid (∀ k r, s1 k = some r → r.1 = q + 1) := fun k r h => by
      rw [hs1] at h
      split at h
      · by_cases e : k = a2
        · rw [e, mupd_same] at h
          cases h
          rfl
        · rw [mupd_other _ e] at h
          cases h
      · cases h
    have HS1 := hid hs1
    have hmob : ∀ j ∈ mob (s1 a2), j = q + 1 := fun j hj => by
      cases e : s1 a2 with
      | none => rw [e] at hj; cases hj
      | some r =>
        rw [e] at hj
        rw [List.mem_singleton.1 hj]
        exact HSR.out _ _ e
    have HMB := hid hmob
    obtain ⟨v1, hv1⟩ : ∃ v, erv es (setE a2 a3) = v := ⟨_, rfl⟩
    rw [hv1]
    clear hM hk hs1 hv1 HM1 HD1 HI1 hmob
    go_wp2_with fail
    refine (HM2.out.write HE.out.e3 a2 a4 i2 i4 a5 n5 c5 l5 (rd_on HR.out HM2.out.bel) (by omega)).mono ?_
    rintro e y4 ⟨rfl, hM, hk⟩
    have HM3 := hid hM
    have HD3 := hid (HD2.out.kept hk (fun hm => by have := HMB.out q hm; omega) (fun k x j h => by cases h))
    have HI3 := hid (HI2.out.kp hk (fun hm => by have := HMB.out _ hm; omega))
    obtain ⟨s2, hs2⟩ : ∃ s2, s2 = wrS s1 a2 a4 l5 := ⟨_, rfl⟩
    rw [← hs2] at HM3
    have HS2 := hid hs2
    have HSR2 : Hid (∀ k r, s2 k = some r → r.1 = q + 1) := by
      rw [hs2]
      exact wrS_blk HSR.out
    obtain ⟨v2, hv2⟩ : ∃ v, erv es (wrE (s1 a2) a4 n5) = v := ⟨_, rfl⟩
    rw [hv2]
    clear hM hk hs2 hv2 HM2 HD2 HI2
    go_wp2_with fail
    refine (rset_any HD3.out (s := fun _ => none) (fun _ => rfl) HM3.out.bel.size a2 a3).mono ?_
    rintro e y5 ⟨rfl, d1, hDn, hag⟩
    have hag1 := hag (q + 1)
    have HAG1 : Hid (Ag s1 d1) := by
      rw [HS1.out]
      exact hag1
    obtain ⟨hD, hk, _⟩ := hDn
    have HD4 := hid hD
    have HM4 := hid (HM3.out.kp (HM3.out.mm.kept hk (by simp only [List.mem_cons, List.not_mem_nil, or_false]; omega) (by simp only [List.mem_cons, List.not_mem_nil, or_false]; omega) (fun k r e => by have := HSR2.out k r e; simp only [List.mem_cons, List.not_mem_nil, or_false]; omega)) hk (fun j hj => by rw [List.mem_singleton.1 hj]; exact hD.lo))
    have HI4 := hid (HI3.out.kp hk (by simp only [List.mem_cons, List.not_mem_nil, or_false]; omega))
    clear hag hag1 hD hk HM3 HD3 HI3
    go_wp2_with fail
    refine (rwrite_any HD4.out HAG1.out HM4.out.bel.size a2 a4 i4 a5 n5 c5 l5 (rd_on HR.out HM4.out.bel)).mono ?_
    rintro e y6 ⟨rfl, d2, hDn, hag⟩
    have HAG2 : Hid (Ag s2 d2) := by
      rw [HS2.out]
      exact hag
    obtain ⟨hD, hk, _⟩ := hDn
    have HD5 := hid hD
    have HM5 := hid (HM4.out.kp (HM4.out.mm.kept hk (by simp only [List.mem_cons, List.not_mem_nil, or_false]; omega) (by simp only [List.mem_cons, List.not_mem_nil, or_false]; omega) (fun k r e => by have := HSR2.out k r e; simp only [List.mem_cons, List.not_mem_nil, or_false]; omega)) hk (fun j hj => by rw [List.mem_singleton.1 hj]; exact hD.lo))
    have HI5 := hid (HI4.out.kp hk (by simp only [List.mem_cons, List.not_mem_nil, or_false]; omega))
    clear hag hD hk HM4 HD4 HI4 HAG1 HS1 HS2 HSR HSR2 HMB
    have t0 := HI5.out.cell 0
    have t1 := HI5.out.cell 1
    have t2 := HI5.out.cell 2
    have t3 := HI5.out.cell 3
    have t4 := HI5.out.cell 4
    have t5 := HI5.out.cell 5
    have hE5 := HE.out.below HM5.out.bel
    have CL := hid (pload_any w.heap.size y6 p b s2 HM5.out.mm es hE5.fmt hE5.e3.stride a0 m0 m1 m2 m3 m4 m5 k0 k1 k2 k3 k4 k5)
    have HB5 := hid HM5.out.bel
    clear hE5 HM5
    go_wp2_with fail
    refine CL.out.mono ?_
    rintro e y7 ⟨W1, H1, aa, na, ca, la, rfl, hb7, hRa, _, hif1⟩
    have HIF1 := hid hif1
    have hx7 := bel_new y7 (.cells #[.int .i64 a0, .int .i64 W1, .int .i64 H1, .slice aa na ca] 43)
    have hb78 := Below.on hb7 hx7
    have HX7 := hid (bk_new y7 #[.int .i64 a0, .int .i64 W1, .int .i64 H1, .slice aa na ca] 43)
    have HRa := hid (hRa.on hx7)
    have HI6 := hid (HI5.out.on hb78)
    have HD6 := hid (HD5.out.on hb78)
    have HB6 := hid (Below.on HB5.out hb78)
    have u0 := HI6.out.cell 0
    have u1 := HI6.out.cell 1
    have u2 := HI6.out.cell 2
    have u3 := HI6.out.cell 3
    have u4 := HI6.out.cell 4
    have u5 := HI6.out.cell 5
    have CL2 := hid (rpload_any w.heap.size _ q s2 d2 HD6.out HAG2.out a0 m0 m1 m2 m3 m4 m5 k0 k1 k2 k3 k4 k5)
    clear hif1 hb7 hRa hx7 hb78 CL HI5 HD5 HB5 t0 t1 t2 t3 t4 t5
    go_wp2_with fail
    refine CL2.out.mono ?_
    rintro e y8 ⟨W2, H2, ab, nb, cb, lb, rfl, hb8, hRb, _, hif2⟩
    obtain ⟨rfl, rfl, rfl, hle⟩ := ldr_same HIF1.out hif2
    obtain rfl : na = nb := by rw [← HRa.out.len, hRb.len]
    have hle2 : na ≤ 16384 := by rw [← HRa.out.len]; exact hle
    have hx8 := bel_new y8 (.cells #[.int .i64 a0, .int .i64 W1, .int .i64 H1, .slice ab na cb] 47)
    have hb88 := Below.on hb8 hx8
    have HX8 := hid (bk_new y8 #[.int .i64 a0, .int .i64 W1, .int .i64 H1, .slice ab na cb] 47)
    have hX7 := HX7.out.on hb88
    have hltx : y7.heap.size < y8.heap.size := (HX7.out.on hb8).lt
    have HRa8 := hid (HRa.out.on hb88)
    have HRb8 := hid (hRb.on hx8)
    have HB8 := hid (Below.on HB6.out hb88)
    have s0 := hX7.cell 0
    have s1' := hX7.cell 1
    have s2' := hX7.cell 2
    have s3 := hX7.cell 3
    have r1 := HX8.out.cell 1
    have r2 := HX8.out.cell 2
    have r3 := HX8.out.cell 3
    have n0 : (a0 != a0) = false := by simp
    have n1 : (W1 != W1) = false := by simp
    have n2 : (H1 != H1) = false := by simp
    clear hif2 hb8 hRb hx8 hb88 hX7 HIF1 CL2 HI6 HD6 HB6 HRa HX7 HX8 u0 u1 u2 u3 u4 u5 hle HAG2
    go_wp2_with fail
    refine (samew_any aa na ca ab cb la _ HRa8.out HRb8.out (by omega)).mono ?_
    rintro e y9 ⟨rfl, hb9⟩
    have HB9 := hid (Below.on HB8.out hb9)
    clear hb9 HB8 HRa8 HRb8 s0 s1' s2' s3 r1 r2 r3
    go_wp2_with fail
    refine (images_any a6 n6 c6 l6 y9 (HG.out.on HB9.out)).mono ?_
    rintro e y10 ⟨v, rfl, hb10, hyes⟩
    have HB10 := hid (Below.on HB9.out hb10)
    have HY := hid hyes
    obtain ⟨ok, hok⟩ : ∃ ok, imOk l6 = ok := ⟨_, rfl⟩
    rw [hok] at HY ⊢
    have HOK := hid hok
    clear hb10 hyes HB9 hok
    cases ok
    · clear HY
      go_wp2_with fail
      refine (pawake23_any _).mono ?_
      rintro e y11 ⟨rfl, hb11⟩
      have HB11 := hid (Below.on HB10.out hb11)
      go_wp2
      go_ret
      exact ⟨rfl, HB11.out⟩
    obtain ⟨ai, ni, ci, hs, rfl, hGi, hEi, hNi⟩ := HY.out rfl
    have HGI := hid hGi
    have CF := hid (pfind_any ai ni ci hs a0 y10 hGi (fun g hg => by have := hNi g hg; omega))
    obtain ⟨fb, fw, fh, fl, fs, q1, q2, q3, q4, q5, q6, q7, q8, q9, q10⟩ := gf_same (k := a0) hEi
    have hfn : ((gf a0 hs).getD gz).n ≤ 400 := by
      cases e : gf a0 hs with
      | none => decide
      | some g => exact hNi g (gf_mem e)
    have HQ := hid (And.intro q1 (And.intro q2 (And.intro q3 (And.intro q4 q5))))
    have hgv : fdv (gf a0 l6) = .tuple #[.agg #[.int .i64 fb, .int .i64 fw, .int .i64 fh, .slice ((gf a0 l6).getD gz).a ((gf a0 l6).getD gz).n ((gf a0 l6).getD gz).c], .bool fs] := by
      rw [fdv, gvv, q6, q7, q8, q10]
    have HGV := hid hgv
    have HGL : Hid (∀ x, Below w.heap.size w x → RdI .u32 x ((gf a0 l6).getD gz).a ((gf a0 l6).getD gz).n ((gf a0 l6).getD gz).c fl) := fun x hb => by
      rw [← q9]
      cases e : gf a0 l6 with
      | none => exact RdI.nil _ _
      | some g => exact ((HG.out.on hb).ok g (gf_mem e)).px
    clear hGi hEi hNi hgv q1 q2 q3 q4 q5 q6 q7 q8 q9 q10 HY HOK
    go_wp2_with fail
    refine CF.out.mono ?_
    rintro e y11 ⟨af, cf, rfl, hpf, _, hbf⟩
    obtain ⟨q1, q2, q3, q4, q5⟩ := HQ.out
    rw [q1, q2, q3, q5]
    rw [q4] at hpf
    obtain ⟨nf, hnf⟩ : ∃ nf, ((gf a0 hs).getD gz).n = nf := ⟨_, rfl⟩
    rw [hnf] at hpf hfn ⊢
    have hx11 := bel_new y11 (.cells #[.int .i64 fb, .int .i64 fw, .int .i64 fh, .slice af nf cf] 43)
    have hb11 := Below.on hbf hx11
    have HX11 := hid (bk_new y11 #[.int .i64 fb, .int .i64 fw, .int .i64 fh, .slice af nf cf] 43)
    have HP11 := hid (hpf.on hx11)
    have HB11 := hid (Below.on HB10.out hb11)
    have CD := hid (rpfind_any a6 n6 c6 l6 a0 _ (HG.out.on HB11.out))
    rw [HGV.out] at CD
    clear q1 q2 q3 q4 q5 hpf hnf hbf hx11 hb11 HGV HQ HGI CF HB10
    go_wp2_with fail
    refine CD.out.mono ?_
    rintro e y12 ⟨rfl, hb12⟩
    obtain ⟨ga, hga⟩ : ∃ ga, ((gf a0 l6).getD gz).a = ga := ⟨_, rfl⟩
    obtain ⟨gn, hgn⟩ : ∃ gn, ((gf a0 l6).getD gz).n = gn := ⟨_, rfl⟩
    obtain ⟨gc, hgc⟩ : ∃ gc, ((gf a0 l6).getD gz).c = gc := ⟨_, rfl⟩
    rw [hga, hgn, hgc] at HGL ⊢
    have hx12 := bel_new y12 (.cells #[.int .i64 fb, .int .i64 fw, .int .i64 fh, .slice ga gn gc] 47)
    have hb13 := Below.on hb12 hx12
    have HX12 := hid (bk_new y12 #[.int .i64 fb, .int .i64 fw, .int .i64 fh, .slice ga gn gc] 47)
    have HB12 := hid (Below.on HB11.out hb13)
    have hR12 := HGL.out _ HB12.out
    obtain rfl : nf = gn := by rw [← HP11.out.len, hR12.len]
    have HR12 := hid hR12
    have HP12 := hid (HP11.out.on hb13)
    have hX11 := HX11.out.on hb13
    have hltx2 : y11.heap.size < y12.heap.size := (HX11.out.on hb12).lt
    have s0 := hX11.cell 0
    have s1' := hX11.cell 1
    have s2' := hX11.cell 2
    have s3 := hX11.cell 3
    have r0 := HX12.out.cell 0
    have r1 := HX12.out.cell 1
    have r2 := HX12.out.cell 2
    have r3 := HX12.out.cell 3
    have n3 : (fs == fs) = true := by simp
    have n4 : (fb == fb) = true := by simp
    have n5' : (fw == fw) = true := by simp
    have n6' : (fh == fh) = true := by simp
    clear hga hgn hgc hx12 hb12 hb13 hX11 HGL HX11 HX12 HP11 HB11 CD hR12 HG
    go_wp2_with fail
    refine (samew_any af nf cf ga gc fl _ HP12.out HR12.out (by omega)).mono ?_
    rintro e y13 ⟨rfl, hb14⟩
    have HB13 := hid (Below.on HB12.out hb14)
    clear hb14 HB12
    go_wp2_with fail
    refine (pawake23_any _).mono ?_
    rintro e y14 ⟨rfl, hb15⟩
    have HB14 := hid (Below.on HB13.out hb15)
    go_wp2
    go_ret
    exact ⟨rfl, HB14.out⟩

  | zero =>
    rw [hrm] at CR
    obtain ⟨Q, W, H, S, rfl, rfl, rfl, rfl, hW, hH, hS, hO, _⟩ := rm_nat hrm
    obtain ⟨N, hN⟩ : ∃ N, W * H = N := ⟨_, rfl⟩
    have eN : (W : Int) * (H : Int) = (N : Int) := by rw [← hN, Int.natCast_mul]
    have hNb : N ≤ 16384 := by
      have h1 : 4 * W * H ≤ S * H := Nat.mul_le_mul_right H hS
      rw [Nat.mul_assoc, hN] at h1
      omega
    clear hrm hN hO
    by_cases hbig : 3000 < N
    · have e2 : decide ((3000 : Int) < N) = true := decide_eq_true (by omega)
      go_enter Tryd.func3, Tryd.ntmps3
      go_wp2_with fail
      rw [← HU.out]
      refine CR.out.mono ?_
      rintro e u1 ⟨rfl, hu1⟩
      obtain rfl : U = u1 := hu1.symm
      clear HU CR
      go_wp2_with fail
      refine (pawake23_any _).mono ?_
      rintro e x5 ⟨rfl, hb5⟩
      have HB5 := hid (Below.on HA.out hb5)
      go_wp2
      go_ret
      exact ⟨rfl, HB5.out⟩
    have e2 : decide ((3000 : Int) < N) = false := decide_eq_false (by omega)
    go_enter Tryd.func3, Tryd.ntmps3
    go_wp2_with fail
    rw [← HU.out]
    refine CR.out.mono ?_
    rintro e u1 ⟨rfl, hu1⟩
    obtain rfl : U = u1 := hu1.symm
    clear HU CR
    go_wp2_with fail
    clear t1 t2 t3 t4 t5 HT
    refine (msnew_at HA.out).mono ?_
    rintro e y1 ⟨rfl, hM, hb1⟩
    obtain ⟨b, hb⟩ : ∃ b, U.heap.size = b := ⟨_, rfl⟩
    rw [hb] at hM ⊢
    obtain ⟨p, hp⟩ : ∃ p, b + 1 = p := ⟨_, rfl⟩
    rw [hp] at hM ⊢
    have hbz := bel_new y1 (.cells zs 34)
    have HI1 := hid ((HI.out.on hb1).on hbz)
    have HM1 := hid (hM.on hbz)
    obtain ⟨q, hq⟩ : ∃ q, y1.heap.size = q := ⟨_, rfl⟩
    have hpl := hM.mm.lt
    have hpq : p < q ∧ b < q := by omega
    have HD1 : Hid (Dm w.heap.size (y1.alloc (.cells zs 34)) q (fun _ => none)) := by
      have h1 := hM.bel.size
      refine ⟨by omega, ?_, (fun k h => by cases h), (fun k x h => by cases h)⟩
      rw [← hq, HZS.out]
      exact heap_alloc_new y1 _
    have hq2 : (y1.alloc (.cells zs 34)).heap.size = q + 1 := by rw [size_new, hq]
    clear hM hb1 hbz HI HA HZS hpl
    go_wp2_with fail
    obtain ⟨y2, hy2⟩ : ∃ y2, y2 = y1.alloc (.cells zs 34) := ⟨_, rfl⟩
    rw [← hy2] at HI1 HM1 HD1 hq2 ⊢
    clear hy2
    refine (HM1.out.set HE.out.e3 a2 a3).mono ?_
    rintro e y3 ⟨rfl, hM, hk⟩
    rw [hq2] at hM
    obtain ⟨s1, hs1⟩ : ∃ s1, s1 = (if setE a2 a3 = 0 then mupd (fun _ => none) a2 (some (q + 1, rsz (by_ none) a3.toNat)) else fun _ => none) := ⟨_, rfl⟩
    rw [← hs1] at hM
    have HM2 := hid hM
    have HD2 := hid (HD1.out.kept hk (by simp only [List.mem_cons, List.not_mem_nil, or_false]; omega) (fun k x j h => by cases h))
    have HI2 := hid (HI1.out.kp hk (by simp only [List.mem_cons, List.not_mem_nil, or_false]; omega))
    have HSR : Hid (∀ k r, s1 k = some r → r.1 = q + 1) := fun k r h => by
      rw [hs1] at h
      split at h
      · by_cases e : k = a2
        · rw [e, mupd_same] at h
          cases h
          rfl
        · rw [mupd_other _ e] at h
          cases h
      · cases h
    have HS1 := hid hs1
    have hmob : ∀ j ∈ mob (s1 a2), j = q + 1 := fun j hj => by
      cases e : s1 a2 with
      | none => rw [e] at hj; cases hj
      | some r =>
        rw [e] at hj
        rw [List.mem_singleton.1 hj]
        exact HSR.out _ _ e
    have HMB := hid hmob
    obtain ⟨v1, hv1⟩ : ∃ v, erv es (setE a2 a3) = v := ⟨_, rfl⟩
    rw [hv1]
    clear hM hk hs1 hv1 HM1 HD1 HI1 hmob
    go_wp2_with fail
    refine (HM2.out.write HE.out.e3 a2 a4 i2 i4 a5 n5 c5 l5 (rd_on HR.out HM2.out.bel) (by omega)).mono ?_
    rintro e y4 ⟨rfl, hM, hk⟩
    have HM3 := hid hM
    have HD3 := hid (HD2.out.kept hk (fun hm => by have := HMB.out q hm; omega) (fun k x j h => by cases h))
    have HI3 := hid (HI2.out.kp hk (fun hm => by have := HMB.out _ hm; omega))
    obtain ⟨s2, hs2⟩ : ∃ s2, s2 = wrS s1 a2 a4 l5 := ⟨_, rfl⟩
    rw [← hs2] at HM3
    have HS2 := hid hs2
    have HSR2 : Hid (∀ k r, s2 k = some r → r.1 = q + 1) := by
      rw [hs2]
      exact wrS_blk HSR.out
    obtain ⟨v2, hv2⟩ : ∃ v, erv es (wrE (s1 a2) a4 n5) = v := ⟨_, rfl⟩
    rw [hv2]
    clear hM hk hs2 hv2 HM2 HD2 HI2
    go_wp2_with fail
    refine (rset_any HD3.out (s := fun _ => none) (fun _ => rfl) HM3.out.bel.size a2 a3).mono ?_
    rintro e y5 ⟨rfl, d1, hDn, hag⟩
    have hag1 := hag (q + 1)
    have HAG1 : Hid (Ag s1 d1) := by
      rw [HS1.out]
      exact hag1
    obtain ⟨hD, hk, _⟩ := hDn
    have HD4 := hid hD
    have HM4 := hid (HM3.out.kp (HM3.out.mm.kept hk (by simp only [List.mem_cons, List.not_mem_nil, or_false]; omega) (by simp only [List.mem_cons, List.not_mem_nil, or_false]; omega) (fun k r e => by have := HSR2.out k r e; simp only [List.mem_cons, List.not_mem_nil, or_false]; omega)) hk (fun j hj => by rw [List.mem_singleton.1 hj]; exact hD.lo))
    have HI4 := hid (HI3.out.kp hk (by simp only [List.mem_cons, List.not_mem_nil, or_false]; omega))
    clear hag hag1 hD hk HM3 HD3 HI3
    go_wp2_with fail
    refine (rwrite_any HD4.out HAG1.out HM4.out.bel.size a2 a4 i4 a5 n5 c5 l5 (rd_on HR.out HM4.out.bel)).mono ?_
    rintro e y6 ⟨rfl, d2, hDn, hag⟩
    have HAG2 : Hid (Ag s2 d2) := by
      rw [HS2.out]
      exact hag
    obtain ⟨hD, hk, _⟩ := hDn
    have HD5 := hid hD
    have HM5 := hid (HM4.out.kp (HM4.out.mm.kept hk (by simp only [List.mem_cons, List.not_mem_nil, or_false]; omega) (by simp only [List.mem_cons, List.not_mem_nil, or_false]; omega) (fun k r e => by have := HSR2.out k r e; simp only [List.mem_cons, List.not_mem_nil, or_false]; omega)) hk (fun j hj => by rw [List.mem_singleton.1 hj]; exact hD.lo))
    have HI5 := hid (HI4.out.kp hk (by simp only [List.mem_cons, List.not_mem_nil, or_false]; omega))
    clear hag hD hk HM4 HD4 HI4 HAG1 HS1 HS2 HSR HSR2 HMB
    have t0 := HI5.out.cell 0
    have t1 := HI5.out.cell 1
    have t2 := HI5.out.cell 2
    have t3 := HI5.out.cell 3
    have t4 := HI5.out.cell 4
    have t5 := HI5.out.cell 5
    have hE5 := HE.out.below HM5.out.bel
    have CL := hid (pload_any w.heap.size y6 p b s2 HM5.out.mm es hE5.fmt hE5.e3.stride a0 m0 Q W H S m5 k0 k1 k2 k3 k4 k5)
    have HB5 := hid HM5.out.bel
    clear hE5 HM5
    go_wp2_with fail
    refine CL.out.mono ?_
    rintro e y7 ⟨W1, H1, aa, na, ca, la, rfl, hb7, hRa, _, hif1⟩
    have HIF1 := hid hif1
    have hx7 := bel_new y7 (.cells #[.int .i64 a0, .int .i64 W1, .int .i64 H1, .slice aa na ca] 43)
    have hb78 := Below.on hb7 hx7
    have HX7 := hid (bk_new y7 #[.int .i64 a0, .int .i64 W1, .int .i64 H1, .slice aa na ca] 43)
    have HRa := hid (hRa.on hx7)
    have HI6 := hid (HI5.out.on hb78)
    have HD6 := hid (HD5.out.on hb78)
    have HB6 := hid (Below.on HB5.out hb78)
    have u0 := HI6.out.cell 0
    have u1 := HI6.out.cell 1
    have u2 := HI6.out.cell 2
    have u3 := HI6.out.cell 3
    have u4 := HI6.out.cell 4
    have u5 := HI6.out.cell 5
    have CL2 := hid (rpload_any w.heap.size _ q s2 d2 HD6.out HAG2.out a0 m0 Q W H S m5 k0 k1 k2 k3 k4 k5)
    clear hif1 hb7 hRa hx7 hb78 CL HI5 HD5 HB5 t0 t1 t2 t3 t4 t5
    go_wp2_with fail
    refine CL2.out.mono ?_
    rintro e y8 ⟨W2, H2, ab, nb, cb, lb, rfl, hb8, hRb, _, hif2⟩
    obtain ⟨rfl, rfl, rfl, hle⟩ := ldr_same HIF1.out hif2
    obtain rfl : na = nb := by rw [← HRa.out.len, hRb.len]
    have hle2 : na ≤ 16384 := by rw [← HRa.out.len]; exact hle
    have hx8 := bel_new y8 (.cells #[.int .i64 a0, .int .i64 W1, .int .i64 H1, .slice ab na cb] 47)
    have hb88 := Below.on hb8 hx8
    have HX8 := hid (bk_new y8 #[.int .i64 a0, .int .i64 W1, .int .i64 H1, .slice ab na cb] 47)
    have hX7 := HX7.out.on hb88
    have hltx : y7.heap.size < y8.heap.size := (HX7.out.on hb8).lt
    have HRa8 := hid (HRa.out.on hb88)
    have HRb8 := hid (hRb.on hx8)
    have HB8 := hid (Below.on HB6.out hb88)
    have s0 := hX7.cell 0
    have s1' := hX7.cell 1
    have s2' := hX7.cell 2
    have s3 := hX7.cell 3
    have r1 := HX8.out.cell 1
    have r2 := HX8.out.cell 2
    have r3 := HX8.out.cell 3
    have n0 : (a0 != a0) = false := by simp
    have n1 : (W1 != W1) = false := by simp
    have n2 : (H1 != H1) = false := by simp
    clear hif2 hb8 hRb hx8 hb88 hX7 HIF1 CL2 HI6 HD6 HB6 HRa HX7 HX8 u0 u1 u2 u3 u4 u5 hle HAG2
    go_wp2_with fail
    refine (samew_any aa na ca ab cb la _ HRa8.out HRb8.out (by omega)).mono ?_
    rintro e y9 ⟨rfl, hb9⟩
    have HB9 := hid (Below.on HB8.out hb9)
    clear hb9 HB8 HRa8 HRb8 s0 s1' s2' s3 r1 r2 r3
    go_wp2_with fail
    refine (images_any a6 n6 c6 l6 y9 (HG.out.on HB9.out)).mono ?_
    rintro e y10 ⟨v, rfl, hb10, hyes⟩
    have HB10 := hid (Below.on HB9.out hb10)
    have HY := hid hyes
    obtain ⟨ok, hok⟩ : ∃ ok, imOk l6 = ok := ⟨_, rfl⟩
    rw [hok] at HY ⊢
    have HOK := hid hok
    clear hb10 hyes HB9 hok
    cases ok
    · clear HY
      go_wp2_with fail
      refine (pawake23_any _).mono ?_
      rintro e y11 ⟨rfl, hb11⟩
      have HB11 := hid (Below.on HB10.out hb11)
      go_wp2
      go_ret
      exact ⟨rfl, HB11.out⟩
    obtain ⟨ai, ni, ci, hs, rfl, hGi, hEi, hNi⟩ := HY.out rfl
    have HGI := hid hGi
    have CF := hid (pfind_any ai ni ci hs a0 y10 hGi (fun g hg => by have := hNi g hg; omega))
    obtain ⟨fb, fw, fh, fl, fs, q1, q2, q3, q4, q5, q6, q7, q8, q9, q10⟩ := gf_same (k := a0) hEi
    have hfn : ((gf a0 hs).getD gz).n ≤ 400 := by
      cases e : gf a0 hs with
      | none => decide
      | some g => exact hNi g (gf_mem e)
    have HQ := hid (And.intro q1 (And.intro q2 (And.intro q3 (And.intro q4 q5))))
    have hgv : fdv (gf a0 l6) = .tuple #[.agg #[.int .i64 fb, .int .i64 fw, .int .i64 fh, .slice ((gf a0 l6).getD gz).a ((gf a0 l6).getD gz).n ((gf a0 l6).getD gz).c], .bool fs] := by
      rw [fdv, gvv, q6, q7, q8, q10]
    have HGV := hid hgv
    have HGL : Hid (∀ x, Below w.heap.size w x → RdI .u32 x ((gf a0 l6).getD gz).a ((gf a0 l6).getD gz).n ((gf a0 l6).getD gz).c fl) := fun x hb => by
      rw [← q9]
      cases e : gf a0 l6 with
      | none => exact RdI.nil _ _
      | some g => exact ((HG.out.on hb).ok g (gf_mem e)).px
    clear hGi hEi hNi hgv q1 q2 q3 q4 q5 q6 q7 q8 q9 q10 HY HOK
    go_wp2_with fail
    refine CF.out.mono ?_
    rintro e y11 ⟨af, cf, rfl, hpf, _, hbf⟩
    obtain ⟨q1, q2, q3, q4, q5⟩ := HQ.out
    rw [q1, q2, q3, q5]
    rw [q4] at hpf
    obtain ⟨nf, hnf⟩ : ∃ nf, ((gf a0 hs).getD gz).n = nf := ⟨_, rfl⟩
    rw [hnf] at hpf hfn ⊢
    have hx11 := bel_new y11 (.cells #[.int .i64 fb, .int .i64 fw, .int .i64 fh, .slice af nf cf] 43)
    have hb11 := Below.on hbf hx11
    have HX11 := hid (bk_new y11 #[.int .i64 fb, .int .i64 fw, .int .i64 fh, .slice af nf cf] 43)
    have HP11 := hid (hpf.on hx11)
    have HB11 := hid (Below.on HB10.out hb11)
    have CD := hid (rpfind_any a6 n6 c6 l6 a0 _ (HG.out.on HB11.out))
    rw [HGV.out] at CD
    clear q1 q2 q3 q4 q5 hpf hnf hbf hx11 hb11 HGV HQ HGI CF HB10
    go_wp2_with fail
    refine CD.out.mono ?_
    rintro e y12 ⟨rfl, hb12⟩
    obtain ⟨ga, hga⟩ : ∃ ga, ((gf a0 l6).getD gz).a = ga := ⟨_, rfl⟩
    obtain ⟨gn, hgn⟩ : ∃ gn, ((gf a0 l6).getD gz).n = gn := ⟨_, rfl⟩
    obtain ⟨gc, hgc⟩ : ∃ gc, ((gf a0 l6).getD gz).c = gc := ⟨_, rfl⟩
    rw [hga, hgn, hgc] at HGL ⊢
    have hx12 := bel_new y12 (.cells #[.int .i64 fb, .int .i64 fw, .int .i64 fh, .slice ga gn gc] 47)
    have hb13 := Below.on hb12 hx12
    have HX12 := hid (bk_new y12 #[.int .i64 fb, .int .i64 fw, .int .i64 fh, .slice ga gn gc] 47)
    have HB12 := hid (Below.on HB11.out hb13)
    have hR12 := HGL.out _ HB12.out
    obtain rfl : nf = gn := by rw [← HP11.out.len, hR12.len]
    have HR12 := hid hR12
    have HP12 := hid (HP11.out.on hb13)
    have hX11 := HX11.out.on hb13
    have hltx2 : y11.heap.size < y12.heap.size := (HX11.out.on hb12).lt
    have s0 := hX11.cell 0
    have s1' := hX11.cell 1
    have s2' := hX11.cell 2
    have s3 := hX11.cell 3
    have r0 := HX12.out.cell 0
    have r1 := HX12.out.cell 1
    have r2 := HX12.out.cell 2
    have r3 := HX12.out.cell 3
    have n3 : (fs == fs) = true := by simp
    have n4 : (fb == fb) = true := by simp
    have n5' : (fw == fw) = true := by simp
    have n6' : (fh == fh) = true := by simp
    clear hga hgn hgc hx12 hb12 hb13 hX11 HGL HX11 HX12 HP11 HB11 CD hR12 HG
    go_wp2_with fail
    refine (samew_any af nf cf ga gc fl _ HP12.out HR12.out (by omega)).mono ?_
    rintro e y13 ⟨rfl, hb14⟩
    have HB13 := hid (Below.on HB12.out hb14)
    clear hb14 HB12
    go_wp2_with fail
    refine (pawake23_any _).mono ?_
    rintro e y14 ⟨rfl, hb15⟩
    have HB14 := hid (Below.on HB13.out hb15)
    go_wp2
    go_ret
    exact ⟨rfl, HB14.out⟩

theorem walk (a0 m1_0 m1_1 m1_2 m1_3 m1_4 m1_5 a2 a3 a4 : Int) (a5 : Option Addr) (n5 c5 : Nat) (l5 : List Int) (a6 : Option Addr) (n6 c6 : Nat) (l6 : List Gv) (w : World) (_w0 : (Lit.int .i64 a0).wf = true) (w1 : ∀ k ∈ [m1_0, m1_1, m1_2, m1_3, m1_4, m1_5], (Lit.int .i64 k).wf = true) (w2 : (Lit.int .i64 a2).wf = true) (_w3 : (Lit.int .i64 a3).wf = true) (w4 : (Lit.int .i64 a4).wf = true) (w5 : RdI .u8 w a5 n5 c5 l5) (_z5 : c5 * 1 ≤ 140737488351232) (w6 : RdG w a6 n6 c6 l6) (hL : laidMetH Tryd.prog Rows.paintLoadsRow.laid w) :
    Calls Tryd.prog 3 #[.int .i64 a0, .agg #[.int .i64 m1_0, .int .i64 m1_1, .int .i64 m1_2, .int .i64 m1_3, .int .i64 m1_4, .int .i64 m1_5], .int .i64 a2, .int .i64 a3, .int .i64 a4, .slice a5 n5 c5, .slice a6 n6 c6] w fun e w' => e = .returned (.bool true) ∧ Below w.heap.size w w' := by
  obtain ⟨es, hE⟩ := errs4q hL
  obtain ⟨bl, hb, _⟩ := w5.bytes
  exact core a0 m1_0 m1_1 m1_2 m1_3 m1_4 m1_5 a2 a3 a4 a5 n5 c5 bl a6 n6 c6 l6 w w1 (wfi w2) (wfi w4) hb w6 es hE
end Go.Proofs.YtpcepgecbdjdfaaDoor.paintLoads
