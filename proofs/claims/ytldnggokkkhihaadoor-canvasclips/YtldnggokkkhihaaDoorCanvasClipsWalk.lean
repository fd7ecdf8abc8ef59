/- CanvasClips: for every two numbers, every slice of calls and every call the law returns true; nothing that was there has turned. -/
import Derived.Test.YtldnggokkkhihaaDoorCanK
import Derived.LaidMore
namespace Go.Proofs.YtldnggokkkhihaaDoor.canvasClips
open Go Go.RowKit

theorem wfi {z : Int} (h : (Lit.int .i64 z).wf = true) : -9223372036854775808 ≤ z ∧ z ≤ 9223372036854775807 := by simpa [Lit.wf, IntKind.min, IntKind.max, IntKind.signed, IntKind.bits] using h

def full : Rc := ⟨0, 0, 50, 50⟩
theorem full_ck : Ck full := ⟨by decide, by decide, by decide, by decide, by decide, by decide⟩
theorem in_full {u v : Nat} (hu : u < 50) (hv : v < 50) : inC [full] u v = true := by
  rw [inC_one full_ck, has_iff]
  simp only [full]
  omega

/-- In clip it is as if everything were clip; outside nothing is turned. -/
theorem clip_eq {W H : Nat} {L : List Int} (hL : L.length = W * H) (hW : W ≤ 48) (hH : H ≤ 48) (x y s t : Int) (pix : List Int) (l : List Rc) {i j : Nat} (hi : i < W) (hj : j < H) :
    atv W H (drw W x y s t pix l L) i j = if inC l i j then atv W H (drw W x y s t pix [full] L) i j else atv W H L i j := by
  obtain ⟨z, hz⟩ : ∃ z, L[j * W + i]? = some z := ⟨_, List.getElem?_eq_getElem (by rw [hL]; exact place_lt hi hj)⟩
  rw [atv_at hi hj hz]
  cases hok : okD x y s t
  · have e : ∀ l, drw W x y s t pix l L = L := fun l => by rw [drw, if_neg (by rw [hok]; decide)]
    rw [e, e, atv_at hi hj hz, ite_self]
  · have e : ∀ l, atv W H (drw W x y s t pix l L) i j = if has ⟨x, y, s, t⟩ i j && inC l i j then gD x y s pix i j z else z := fun l => atv_at hi hj (by rw [drw_get hok hi, hz]; rfl)
    rw [e, e, in_full (by omega) (by omega), Bool.and_true]
    cases inC l i j
    · rw [Bool.and_false]
      rfl
    · rw [Bool.and_true]
      rfl

set_option maxRecDepth 100000 in
set_option maxHeartbeats 8000000 in
theorem walk (a0 a1 : Int) (a2 : Option Addr) (n2 c2 : Nat) (o : Cl) (w : World) (w0 : (Lit.int .i64 a0).wf = true) (w1 : (Lit.int .i64 a1).wf = true) (w2 : RdO w a2 n2 c2) (w3 : o.Ok w) (_hL : laidMetH Tryd.prog Rows.canvasClipsRow.laid w) :
    Calls Tryd.prog 4 #[.int .i64 a0, .int .i64 a1, .slice a2 n2 c2, .agg #[.int .i64 o.k, .int .i64 o.x, .int .i64 o.y, .int .i64 o.s, .int .i64 o.t, .int .u32 o.v, .slice o.a o.m o.c, .slice o.a' o.n o.c']] w fun e w' => e = .returned (.bool true) ∧ Below w.heap.size w w' := by
  have HP0 : Hid (∀ u, Calls Tryd.prog 12 #[.int .i64 a0, .int .i64 20] u fun e w' => e = .returned (.int .i64 (plc a0 20 : Nat)) ∧ w' = u) := fun u => place_any a0 20 (wfi w0) (by omega) (by omega) u
  have HP1 : Hid (∀ u, Calls Tryd.prog 12 #[.int .i64 a1, .int .i64 20] u fun e w' => e = .returned (.int .i64 (plc a1 20 : Nat)) ∧ w' = u) := fun u => place_any a1 20 (wfi w1) (by omega) (by omega) u
  have b0 := plc_lt a0 20 (by omega)
  have b1 := plc_lt a1 20 (by omega)
  generalize plc a0 20 = m0 at *
  generalize plc a1 20 = m1 at *
  obtain ⟨W, hW⟩ : ∃ W, 1 + m0 = W := ⟨_, rfl⟩
  obtain ⟨H, hH⟩ : ∃ H, 1 + m1 = H := ⟨_, rfl⟩
  have eW : (1 : Int) + (m0 : Int) = (W : Int) := by omega
  have eH : (1 : Int) + (m1 : Int) = (H : Int) := by omega
  have hW1 : 1 ≤ W ∧ W ≤ 48 := by omega
  have hH1 : 1 ≤ H ∧ H ≤ 48 := by omega
  have HB0 : Hid (Below w.heap.size w (w.alloc (.cells #[.int .i64 o.k, .int .i64 o.x, .int .i64 o.y, .int .i64 o.s, .int .i64 o.t, .int .u32 o.v, .slice o.a o.m o.c, .slice o.a' o.n o.c'] 39))) := below_new w _
  have HC0 := hid (oc_new w o)
  have HOK := hid (w3.on HB0.out)
  have HO : Hid (RdO (w.alloc (.cells #[.int .i64 o.k, .int .i64 o.x, .int .i64 o.y, .int .i64 o.s, .int .i64 o.t, .int .u32 o.v, .slice o.a o.m o.c, .slice o.a' o.n o.c'] 39)) a2 n2 c2) := ⟨w2.le, w2.max, fun j hj => by
    obtain ⟨b, off, o', e, h1, h2, h3⟩ := w2.each j hj
    exact ⟨b, off, o', e, Nat.lt_of_lt_of_le h1 HB0.out.size, h2.on HB0.out, fun i v hi => (HB0.out.cell (p := ⟨b, off + j * 8 + i, none⟩) h1).trans (h3 i v hi)⟩⟩
  have hln : o.l.length = o.n := w3.clip.len
  clear w0 w1 w2 w3 _hL hW hH
  go_enter Tryd.func4, Tryd.ntmps4
  go_wp2_with fail
  obtain ⟨U, HU⟩ : ∃ U, Hid (U = w.alloc (.cells #[.int .i64 o.k, .int .i64 o.x, .int .i64 o.y, .int .i64 o.s, .int .i64 o.t, .int .u32 o.v, .slice o.a o.m o.c, .slice o.a' o.n o.c'] 39)) := ⟨_, rfl⟩
  rw [← HU.out] at HB0 HC0 HOK HO
  rw [← HU.out]
  clear HU
  obtain ⟨Q, hQe⟩ : ∃ Q, w.heap.size = Q := ⟨_, rfl⟩
  rw [hQe] at HC0
  rw [hQe]
  have HQE := hid hQe
  clear hQe
  refine (HP0.out _).mono ?_
  rintro e x1 ⟨rfl, rfl⟩
  go_wp2_with fail
  refine (HP1.out _).mono ?_
  rintro e x2 ⟨rfl, rfl⟩
  clear HP0 HP1
  go_wp2_with fail
  refine (cnew_any _ W H hW1 hH1).mono ?_
  rintro e x3 ⟨p, b, rfl, hb3, hC, hp, hb⟩
  have HB3 := hid hb3
  have HC3 := hid hC
  have l1 := hC.lt
  clear hb3 hC
  go_wp2_with fail
  refine (rnew_any _ W H hW1 hH1).mono ?_
  rintro e x4 ⟨q, d, rfl, hb4, hD, hq, hd⟩
  have HBo : Hid (Bo x2 x4 p b q d W H (List.replicate (W * H) 0) (List.replicate (W * H) 0)) := ⟨HC3.out.on hb4, hD, by omega, by omega, by omega, hb, by have := HB3.out.size; omega, Below.on HB3.out hb4⟩
  clear hb4 hD HC3 HB3
  go_wp2_with fail
  refine (play_any HBo.out _ _ _ HO.out).mono ?_
  rintro e x5 ⟨rfl, L, hB5⟩
  have HB5 := hid hB5
  have HC5 := hid (HC0.out.on hB5.bel)
  clear hB5 HBo HO
  obtain ⟨t0, t1, t2, t3, t4, t5, t6, t7⟩ := HC5.out.all
  by_cases h1 : 400 < o.m
  · have f1 : decide ((400 : Int) < o.m) = true := decide_eq_true (by omega)
    go_wp2_with fail
    refine (awake_any _).mono ?_
    rintro e x6 ⟨rfl, hb6⟩
    have HB6 := hid (Below.on HB0.out (Below.on HB5.out.bel hb6))
    clear hb6
    go_wp2
    go_ret
    exact ⟨rfl, HB6.out⟩
  have f1 : decide ((400 : Int) < o.m) = false := decide_eq_false (by omega)
  by_cases h2 : 6 < o.n
  · have f2 : decide ((6 : Int) < o.n) = true := decide_eq_true (by omega)
    go_wp2_with fail
    refine (awake_any _).mono ?_
    rintro e x6 ⟨rfl, hb6⟩
    have HB6 := hid (Below.on HB0.out (Below.on HB5.out.bel hb6))
    clear hb6
    go_wp2
    go_ret
    exact ⟨rfl, HB6.out⟩
  have f2 : decide ((6 : Int) < o.n) = false := decide_eq_false (by omega)
  go_wp2_with fail
  refine (ccopy_any HB5.out.cv).mono ?_
  rintro e x6 ⟨p1, b1', rfl, hb6, hC6, hp1, hb1⟩
  have l5 := HB5.out.cv.lt
  have lb := HB5.out.lob
  have HK6 := hid (HB5.out.cv.on hb6)
  have HW6 := hid hC6
  have HB6 := hid (Below.on HB5.out.bel hb6)
  have HC6 := hid (HC5.out.on hb6)
  clear hb6 hC6 HC5 HB5 t0 t1 t2 t3 t4 t5 t6 t7
  go_wp2_with fail
  refine (ccopy_any HK6.out).mono ?_
  rintro e x7 ⟨p2, b2, rfl, hb7, hC7, hp2, hb2⟩
  have l6 := HW6.out.lt
  have s7 := hb7.size
  have HK7 := hid (HK6.out.on hb7)
  have HW7 := hid (HW6.out.on hb7)
  have HA7 := hid hC7
  have HB7 := hid (Below.on HB6.out hb7)
  have HC7 := hid (HC6.out.on hb7)
  clear hb7 hC7 HK6 HW6 HB6 HC6
  obtain ⟨t0, t1, t2, t3, t4, t5, t6, t7⟩ := HC7.out.all
  have l7 := HA7.out.lt
  have l7' := HW7.out.lt
  go_wp2_with fail
  refine (cdraw_any HK7.out o.x o.y o.s o.t HOK.out.x HOK.out.y HOK.out.s HOK.out.t _ _ _ o.pix (HOK.out.pix.on HB7.out) (by omega) (rdi_low HOK.out.pix lb) _ _ _ o.l (HOK.out.clip.on HB7.out) (by omega)).mono ?_
  rintro e x8 ⟨rfl, hK8, hk8⟩
  have s8 := hk8.size
  have HK8 := hid hK8
  have HW8 := hid (HW7.out.kept hk8 (by simp; omega) (by simp; omega))
  have HA8 := hid (HA7.out.kept hk8 (by simp; omega) (by simp; omega))
  have HB8 := hid (bel_kp HB7.out hk8 HB7.out.size (fun k hk => by simp only [List.mem_cons, List.not_mem_nil, or_false] at hk; omega))
  have HC8 := hid (HC0.out.on HB8.out)
  clear hK8 hk8 HK7 HW7 HA7 HB7 HC7 t0 t1 t2 t3 t4 t5 t6 t7
  obtain ⟨t0, t1, t2, t3, t4, t5, t6, t7⟩ := HC8.out.all
  go_wp2_with fail
  have hb9 : Below x8.heap.size x8 (x8.alloc (.cells #[.int .i64 0, .int .i64 0, .int .i64 50, .int .i64 50] 44)) := below_new x8 _
  have hR9 : RdC (x8.alloc (.cells #[.int .i64 0, .int .i64 0, .int .i64 50, .int .i64 50] 44)) (some ⟨x8.heap.size, 0, none⟩) 1 1 [full] := rdc_lit x8 full full_ck.ok
  have HB9 := hid (Below.on HB8.out hb9)
  have lob2 : x2.heap.size ≤ b2 := by omega
  refine (cdraw_any (HA8.out.on hb9) o.x o.y o.s o.t HOK.out.x HOK.out.y HOK.out.s HOK.out.t _ _ _ o.pix (HOK.out.pix.on HB9.out) (by omega) (rdi_low HOK.out.pix lob2) _ 1 1 [full] hR9 (by omega)).mono ?_
  rintro e x10 ⟨rfl, hA10, hk10⟩
  have HA10 := hid hA10
  have HK10 := hid ((HK8.out.on hb9).kept hk10 (by simp; omega) (by simp; omega))
  have HW10 := hid ((HW8.out.on hb9).kept hk10 (by simp; omega) (by simp; omega))
  have HB10 := hid (bel_kp HB9.out hk10 HB9.out.size (fun k hk => by simp only [List.mem_cons, List.not_mem_nil, or_false] at hk; omega))
  have HLL := hid HW10.out.len
  clear hA10 hk10 hb9 hR9 HK8 HW8 HA8 HB8 HB9 HC8 t0 t1 t2 t3 t4 t5 t6 t7
  have HEQ : Hid (∀ i j : Nat, i < W → j < H → atv W H (drw W o.x o.y o.s o.t o.pix o.l L) i j = if inC o.l i j then atv W H (drw W o.x o.y o.s o.t o.pix [full] L) i j else atv W H L i j) := fun i j hi hj => clip_eq HLL.out hW1.2 hH1.2 o.x o.y o.s o.t o.pix o.l hi hj
  generalize drw W o.x o.y o.s o.t o.pix o.l L = A at *
  generalize drw W o.x o.y o.s o.t o.pix [full] L = F at *
  clear lb l1 l5 l6 l7 l7' s7 s8 lob2 h1 h2 f1 f2 hp hb hq hd hp1 hb1 hp2 hb2 eW eH HLL
  go_wp2
  go_loopw [16] (fun t wr => ∃ j : Nat, t = .int .i64 j ∧ j ≤ H ∧ Cv 55 wr p b W H A ∧ Cv 55 wr p1 b1' W H L ∧ Cv 55 wr p2 b2 W H F ∧ RowKit.Below x2.heap.size x2 wr) (fun t _ => H - (numOf t).toNat)
  case atStart => exact ⟨0, rfl, by omega, HK10.out, HW10.out, HA10.out, HB10.out⟩
  case round =>
    obtain ⟨j, rfl, hj, hK, hWs, hA, hB⟩ := hrel
    have HK11 := hid hK
    have HW11 := hid hWs
    have HA11 := hid hA
    have HB11 := hid hB
    clear hK hWs hA hB HK10 HW10 HA10 HB10
    by_cases hgj : j < H
    · have e1 : decide ((j : Int) < H) = true := decide_eq_true (by omega)
      go_wp2
      go_loopw [17] (fun t wr => ∃ i : Nat, t = .int .i64 i ∧ i ≤ W ∧ Cv 55 wr p b W H A ∧ Cv 55 wr p1 b1' W H L ∧ Cv 55 wr p2 b2 W H F ∧ RowKit.Below x2.heap.size x2 wr) (fun t _ => W - (numOf t).toNat)
      case atStart => exact ⟨0, rfl, by omega, HK11.out, HW11.out, HA11.out, HB11.out⟩
      case round =>
        obtain ⟨i, rfl, hi, hK, hWs, hA, hB⟩ := hrel
        have HK12 := hid hK
        have HW12 := hid hWs
        have HA12 := hid hA
        have HB12 := hid hB
        clear hK hWs hA hB HK11 HW11 HA11 HB11
        by_cases hgi : i < W
        · have e2 : decide ((i : Int) < W) = true := decide_eq_true (by omega)
          have HQ := hid (HEQ.out i j hgi hgj)
          have hiI : I64 (i : Int) := by rw [I64]; omega
          have hjI : I64 (j : Int) := by rw [I64]; omega
          obtain ⟨z, HZ⟩ : ∃ z, Hid (atv W H L i j = z) := ⟨_, rfl⟩
          obtain ⟨f, HF⟩ : ∃ f, Hid (atv W H F i j = f) := ⟨_, rfl⟩
          have HQ2 := hid HQ.out
          rw [HZ.out, HF.out] at HQ2
          clear HQ
          go_wp2_with fail
          refine (at_any HW12.out i j hiI hjI).mono ?_
          rintro e y1 ⟨rfl, hb1⟩
          rw [HZ.out]
          have HK13 := hid (HK12.out.on hb1)
          have HW13 := hid (HW12.out.on hb1)
          have HA13 := hid (HA12.out.on hb1)
          have HB13 := hid (Below.on HB12.out hb1)
          have HC13 := hid (HC0.out.on HB13.out)
          clear hb1 HK12 HW12 HA12 HB12
          obtain ⟨t0, t1, t2, t3, t4, t5, t6, t7⟩ := HC13.out.all
          have CI := hid (rin14_any o.a' o.n o.c' o.l y1 (HOK.out.clip.on HB13.out) i j hiI hjI)
          clear t0 t1 t2 t3 t4 t5 t6
          go_wp2_with fail
          refine CI.out.mono ?_
          rintro e y2 ⟨rfl, hb2⟩
          have HK14 := hid (HK13.out.on hb2)
          have HW14 := hid (HW13.out.on hb2)
          have HA14 := hid (HA13.out.on hb2)
          have HB14 := hid (Below.on HB13.out hb2)
          clear hb2 HK13 HW13 HA13 HB13 HC13 t7 CI
          cases hq : inC o.l i j
          · rw [hq] at HQ2
            have HQ3 : Hid (atv W H A i j = z) := HQ2.out
            have n1 : (z != z) = false := by simp
            clear HQ2
            go_wp2_with fail
            refine (at_any HK14.out i j hiI hjI).mono ?_
            rintro e y3 ⟨rfl, hb3⟩
            rw [HQ3.out]
            have HK15 := hid (HK14.out.on hb3)
            have HW15 := hid (HW14.out.on hb3)
            have HA15 := hid (HA14.out.on hb3)
            have HB15 := hid (Below.on HB14.out hb3)
            clear hb3 HK14 HW14 HA14 HB14
            go_wp2
            go_roundw
            case rel => exact ⟨i + 1, by go_num, by omega, HK15.out, HW15.out, HA15.out, HB15.out⟩
            case measure => simp [numOf]; omega
          · rw [hq] at HQ2
            have HQ3 : Hid (atv W H A i j = f) := HQ2.out
            have n1 : (f != f) = false := by simp
            clear HQ2
            go_wp2_with fail
            refine (at_any HA14.out i j hiI hjI).mono ?_
            rintro e y3 ⟨rfl, hb3⟩
            rw [HF.out]
            have HK15 := hid (HK14.out.on hb3)
            have HW15 := hid (HW14.out.on hb3)
            have HA15 := hid (HA14.out.on hb3)
            have HB15 := hid (Below.on HB14.out hb3)
            clear hb3 HK14 HW14 HA14 HB14
            go_wp2_with fail
            refine (at_any HK15.out i j hiI hjI).mono ?_
            rintro e y4 ⟨rfl, hb4⟩
            rw [HQ3.out]
            have HK16 := hid (HK15.out.on hb4)
            have HW16 := hid (HW15.out.on hb4)
            have HA16 := hid (HA15.out.on hb4)
            have HB16 := hid (Below.on HB15.out hb4)
            clear hb4 HK15 HW15 HA15 HB15
            go_wp2
            go_roundw
            case rel => exact ⟨i + 1, by go_num, by omega, HK16.out, HW16.out, HA16.out, HB16.out⟩
            case measure => simp [numOf]; omega
        · have e2 : decide ((i : Int) < W) = false := decide_eq_false (by omega)
          go_wp2
          go_roundw
          case rel => exact ⟨j + 1, by go_num, by omega, HK12.out, HW12.out, HA12.out, HB12.out⟩
          case measure => simp [numOf]; omega
    · have e1 : decide ((j : Int) < H) = false := decide_eq_false (by omega)
      go_wp2_with fail
      refine (awake_any _).mono ?_
      rintro e y5 ⟨rfl, hb5⟩
      have HB17 := hid (Below.on HB0.out (Below.on HB11.out hb5))
      clear hb5
      go_wp2
      go_ret
      exact ⟨rfl, HB17.out⟩
end Go.Proofs.YtldnggokkkhihaaDoor.canvasClips
