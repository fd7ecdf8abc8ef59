/- CanvasCopies: for every five numbers the call returns true; nothing that was there has turned. -/
import Derived.Test.YtldnggokkkhihaaDoorCanG
import Derived.Test.YtldnggokkkhihaaDoorLibP
import Derived.Test.YtldnggokkkhihaaDoorLibS
import Derived.LaidMore
namespace Go.Proofs.YtldnggokkkhihaaDoor.canvasCopies
open Go Go.RowKit

theorem wfi {z : Int} (h : (Lit.int .i64 z).wf = true) : -9223372036854775808 ≤ z ∧ z ≤ 9223372036854775807 := by simpa [Lit.wf, IntKind.min, IntKind.max, IntKind.signed, IntKind.bits] using h
theorem wfu {z : Int} (h : (Lit.int .u32 z).wf = true) : Col z := by
  simp [Lit.wf, IntKind.min, IntKind.max, IntKind.signed, IntKind.bits] at h
  unfold Col
  omega

set_option maxRecDepth 100000 in
set_option maxHeartbeats 4000000 in
theorem walk (a0 a1 a2 a3 a4 : Int) (w : World) (w0 : (Lit.int .i64 a0).wf = true) (w1 : (Lit.int .i64 a1).wf = true) (w2 : (Lit.int .u32 a2).wf = true) (w3 : (Lit.int .i64 a3).wf = true) (w4 : (Lit.int .i64 a4).wf = true) (_hL : laidMetH Tryd.prog Rows.canvasCopiesRow.laid w) :
    Calls Tryd.prog 5 #[.int .i64 a0, .int .i64 a1, .int .u32 a2, .int .i64 a3, .int .i64 a4] w fun e w' => e = .returned (.bool true) ∧ Below w.heap.size w w' := by
  have hv := wfu w2
  have HP0 : Hid (∀ u, Calls Tryd.prog 12 #[.int .i64 a0, .int .i64 48] u fun e w' => e = .returned (.int .i64 (plc a0 48 : Nat)) ∧ w' = u) := fun u => place_any a0 48 (wfi w0) (by omega) (by omega) u
  have HP1 : Hid (∀ u, Calls Tryd.prog 12 #[.int .i64 a1, .int .i64 48] u fun e w' => e = .returned (.int .i64 (plc a1 48 : Nat)) ∧ w' = u) := fun u => place_any a1 48 (wfi w1) (by omega) (by omega) u
  have b0 := plc_lt a0 48 (by omega)
  have b1 := plc_lt a1 48 (by omega)
  generalize plc a0 48 = m0 at *
  generalize plc a1 48 = m1 at *
  obtain ⟨P, hP⟩ : ∃ P, 1 + m0 = P := ⟨_, rfl⟩
  obtain ⟨Q, hQ⟩ : ∃ Q, 1 + m1 = Q := ⟨_, rfl⟩
  have eP : (1 : Int) + (m0 : Int) = (P : Int) := by omega
  have eQ : (1 : Int) + (m1 : Int) = (Q : Int) := by omega
  have hP1 : 1 ≤ P ∧ P ≤ 48 := by omega
  have hQ1 : 1 ≤ Q ∧ Q ≤ 48 := by omega
  have HP3 := hid (fun u => place_any a3 P (wfi w3) (by omega) (by omega) u)
  have HP4 := hid (fun u => place_any a4 Q (wfi w4) (by omega) (by omega) u)
  have b3 := plc_lt a3 P (by omega)
  have b4 := plc_lt a4 Q (by omega)
  generalize plc a3 P = i at *
  generalize plc a4 Q = j at *
  obtain ⟨n, hn⟩ : ∃ n, P * Q = n := ⟨_, rfl⟩
  obtain ⟨o, ho⟩ : ∃ o, j * P = o := ⟨_, rfl⟩
  have hoi : o + i < n := by rw [← hn, ← ho]; exact place_lt b3 b4
  have hn1 : n ≤ 2304 := by rw [← hn]; exact Nat.mul_le_mul hP1.2 hQ1.2
  have m1' : (P : Int) * (Q : Int) = (n : Int) := by rw [← hn, Int.natCast_mul]
  have m2' : (j : Int) * (P : Int) = (o : Int) := by rw [← ho, Int.natCast_mul]
  have ok : (Rc.mk i j 1 1).Ok := ⟨by dsimp only; omega, by dsimp only; omega, by dsimp only; omega, by dsimp only; omega⟩
  have kr : Ck (Rc.mk i j 1 1) := ⟨by dsimp only; omega, by dsimp only; omega, by dsimp only; omega, by dsimp only; omega, by dsimp only; omega, by dsimp only; omega⟩
  have CN := hid (cnew_any w P Q hP1 hQ1)
  have HZ : Hid ((List.replicate (P * Q) (0 : Int))[j * P + i]? = some 0) := by
    rw [Hid, List.getElem?_replicate, if_pos (place_lt b3 b4)]
  have HV : Hid ((fll P a2 [⟨i, j, 1, 1⟩] (List.replicate (P * Q) 0))[j * P + i]? = some a2) := by
    rw [Hid, fll_get b3, HZ.out, inC_one kr, has_iff.2 (by dsimp only; omega)]
    rfl
  have HA1 := hid (atv_at b3 b4 HV.out)
  have HA2 := hid (atv_at b3 b4 HZ.out)
  have HA3 : Hid (∀ L, atv P Q L P 0 = 0) := fun L => atv_no (by omega) (by omega) (by omega)
  have HA4 : Hid (∀ L, atv P Q L (-1) 0 = 0) := fun L => atv_no (by omega) (by omega) (by omega)
  clear w0 w1 w2 w3 w4 _hL hP hQ
  go_enter Tryd.func5, Tryd.ntmps5
  go_wp2_with fail
  refine (HP0.out _).mono ?_
  rintro e x1 ⟨rfl, rfl⟩
  go_wp2_with fail
  refine (HP1.out _).mono ?_
  rintro e x2 ⟨rfl, rfl⟩
  go_wp2_with fail
  refine CN.out.mono ?_
  rintro e x3 ⟨p, b, rfl, hb3, hC, hp, hq⟩
  have HC := hid hC
  have HB := hid hb3
  clear hC hb3 CN HP0 HP1
  go_wp2_with fail
  refine (HP3.out _).mono ?_
  rintro e x4 ⟨rfl, rfl⟩
  go_wp2_with fail
  refine (HP4.out _).mono ?_
  rintro e x5 ⟨rfl, rfl⟩
  go_wp2_with fail
  refine (ccopy_any HC.out).mono ?_
  rintro e x6 ⟨p', b', rfl, hb6, hD, hp', hb'⟩
  have l1 := HC.out.lt
  have HB6 := hid (Below.on HB.out hb6)
  have HC6 := hid (HC.out.on hb6)
  have HD6 := hid hD
  clear hb6 hD HC HB HP3 HP4
  go_wp2_with fail
  have hb7 : Below x6.heap.size x6 (x6.alloc (.cells #[.int .i64 (i : Nat), .int .i64 (j : Nat), .int .i64 1, .int .i64 1] 44)) := below_new x6 _
  refine (cfill_any (HD6.out.on hb7) a2 hv _ 1 1 [⟨i, j, 1, 1⟩] (rdc_lit x6 ⟨i, j, 1, 1⟩ ok) (by omega)).mono ?_
  rintro e x7 ⟨rfl, hD7, hk7⟩
  have HB7 := hid (Below.on HB6.out hb7)
  have HB8 := hid (bel_kp HB7.out hk7 HB7.out.size (fun k hk => by simp only [List.mem_cons, List.not_mem_nil, or_false] at hk; have := HB6.out.size; omega))
  have HC8 := hid ((HC6.out.on hb7).kept hk7 (by simp; omega) (by simp; omega))
  have HD8 := hid hD7
  clear hb7 hD7 hk7 HB6 HB7 HC6 HD6
  go_wp2_with fail
  refine (pixels_any HD8.out).mono ?_
  rintro e x9 ⟨g, rfl, hg, hO, hb9⟩
  have l2 := HC8.out.lt
  have l3 := HD8.out.lt
  have HB9 := hid (Below.on HB8.out hb9)
  have HC9 := hid (HC8.out.on hb9)
  have HD9 := hid (HD8.out.on hb9)
  have fz := hO.frozenAt 0
  obtain ⟨z, hz⟩ : ∃ z, (fll P a2 [⟨i, j, 1, 1⟩] (List.replicate (P * Q) 0))[0]? = some z := ⟨_, List.getElem?_eq_getElem (by rw [fll_length, List.length_replicate, hn]; omega)⟩
  have c0 : x9.cell? ⟨g, 0, none⟩ = some (.int .u32 z) := by
    rw [hO.cellAt 0 (by rw [hn]; omega), List.getElem?_map, hz]
    rfl
  rw [hn]
  have hgb := HB8.out.size
  clear hb9 hO HB8 HC8 HD8 hz
  have n1 : ((n : Int) != n) = false := by simp
  have n2 : (0 : Int) < (n : Int) := by omega
  go_wp2_with fail
  obtain ⟨x10, HX⟩ : ∃ x, Hid (x = x9.setCell ⟨g, 0, none⟩ (.int .u32 (bits .xor .u32 z 1))) := ⟨_, rfl⟩
  rw [← HX.out]
  have hk10 : Kp [g] x9 x10 := by rw [HX.out]; exact (Kp.refl [g] x9).set _ (by simp) _
  have HB10 := hid (bel_kp HB9.out hk10 HB9.out.size (fun k hk => by simp only [List.mem_cons, List.not_mem_nil, or_false] at hk; omega))
  have HC10 := hid (HC9.out.kept hk10 (by simp; omega) (by simp; omega))
  have HD10 := hid (HD9.out.kept hk10 (by simp; omega) (by simp; omega))
  clear HX hk10 HB9 HC9 HD9 c0 fz
  refine (at_any HD10.out i j (by rw [I64]; omega) (by rw [I64]; omega)).mono ?_
  rintro e x11 ⟨rfl, hb⟩
  rw [HA1.out]
  have HB11 := hid (Below.on HB10.out hb)
  have HC11 := hid (HC10.out.on hb)
  have HD11 := hid (HD10.out.on hb)
  clear hb HB10 HC10 HD10 HA1
  go_wp2_with fail
  refine (at_any HC11.out i j (by rw [I64]; omega) (by rw [I64]; omega)).mono ?_
  rintro e x12 ⟨rfl, hb⟩
  rw [HA2.out]
  have HB12 := hid (Below.on HB11.out hb)
  have HD12 := hid (HD11.out.on hb)
  clear hb HB11 HC11 HD11 HA2
  go_wp2_with fail
  refine (pixels_any HD12.out).mono ?_
  rintro e x13 ⟨g', rfl, hg', hO, hb⟩
  have c0 : x13.cell? ⟨g', o + i, none⟩ = some (.int .u32 a2) := by
    rw [hO.cellAt (o + i) (by rw [hn]; omega), List.getElem?_map, ← ho, HV.out]
    rfl
  have n3 : (o : Int) + (i : Int) < (n : Int) := by omega
  rw [hn]
  have HB13 := hid (Below.on HB12.out hb)
  have HD13 := hid (HD12.out.on hb)
  clear hb HB12 HD12 hO HV
  go_wp2_with fail
  refine (at_any HD13.out P 0 (by rw [I64]; omega) (by rw [I64]; decide)).mono ?_
  rintro e x14 ⟨rfl, hb⟩
  rw [HA3.out]
  have HB14 := hid (Below.on HB13.out hb)
  have HD14 := hid (HD13.out.on hb)
  clear hb HB13 HD13 HA3
  go_wp2_with fail
  refine (at_any HD14.out (-1) 0 (by rw [I64]; decide) (by rw [I64]; decide)).mono ?_
  rintro e x15 ⟨rfl, hb⟩
  rw [HA4.out]
  have HB15 := hid (Below.on HB14.out hb)
  clear hb HB14 HD14 HA4
  go_wp2_with fail
  refine (awake_any _).mono ?_
  rintro e x16 ⟨rfl, hb⟩
  have HB16 := hid (Below.on HB15.out hb)
  clear hb HB15
  go_wp2
  go_ret
  exact ⟨rfl, HB16.out⟩
end Go.Proofs.YtldnggokkkhihaaDoor.canvasCopies
