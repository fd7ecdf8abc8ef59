/- RepaintChanges: for all views ahead, and now, and damage the call returns true; nothing that was there has turned. -/
import Derived.Test.YtlkodgmnhphfcaaBi
import Derived.Test.YtlkodgmnhphfcaaBf
import Derived.Test.YtlkodgmnhphfcaaBb
import Derived.LaidMore
namespace Go.Proofs.Ytlkodgmnhphfcaa.repaintChanges
open Go Go.RowKit

set_option maxRecDepth 100000 in
set_option maxHeartbeats 4000000 in
theorem walk (a0 : Option Addr) (n0 c0 : Nat) (l0 : List (List Int)) (a1 : Option Addr) (n1 c1 : Nat) (l1 : List (List Int)) (a2 : Option Addr) (n2 c2 : Nat) (l2 : List Dv) (w : World) (w0 : RdN 6 w a0 n0 c0 l0) (w1 : RdN 6 w a1 n1 c1 l1) (w2 : RdD w a2 n2 c2 l2) :
    Calls Try.prog 3 #[.slice a0 n0 c0, .slice a1 n1 c1, .slice a2 n2 c2] w fun e w' => e = .returned (.bool true) ∧ Below w.heap.size w w' := by
  obtain ⟨i0, hi, hz0, hz1, hz2⟩ := infoMP infoVq
  have HX := hid (rdm_of_rdn (by omega) w0)
  have HY := hid (rdm_of_rdn (by omega) w1)
  have HD := hid w2
  have HXS := hid w0.size
  have HYS := hid w1.size
  have HXK : Hid (∀ y ∈ l0, (vrc y).Ok) := fun y hy => vrc_ok fun z hz => i64_wf (w0.wf y hy z hz)
  have HYK : Hid (∀ y ∈ l1, (vrc y).Ok) := fun y hy => vrc_ok fun z hz => i64_wf (w1.wf y hy z hz)
  have hx := HX.out.small
  have hy := HY.out.small
  have HXL := hid w0.len
  have HYL := hid w1.len
  obtain ⟨ok, hok⟩ : ∃ ok, diOk l2 = ok := ⟨_, rfl⟩
  have HOK := hid hok
  have CI := hid (qdirt_any a2 n2 c2 l2 w w2)
  obtain ⟨p, hp⟩ : ∃ p, nrB l0 = p := ⟨_, rfl⟩
  obtain ⟨q, hq⟩ : ∃ q, nrB l1 = q := ⟨_, rfl⟩
  have HP := hid hp
  have HQ := hid hq
  clear w0 w1 w2 hok hp hq
  go_enter Try.func3, Try.ntmps3
  go_wp2_with fail
  refine CI.out.mono ?_
  rintro e x1 ⟨v, rfl, hb1, hyes⟩
  rw [HOK.out] at hyes ⊢
  have HB1 := hid hb1
  have HE := hid hyes
  clear hb1 hyes CI
  cases ok
  · clear HE HX HY HD
    go_wp2_with fail
    refine (qawake24_any _).mono ?_
    rintro e x2 ⟨rfl, hb2⟩
    have HB2 := hid (Below.on HB1.out hb2)
    go_wp2
    go_ret
    exact ⟨rfl, HB2.out⟩
  obtain ⟨ai, ni, ci, hs, rfl, hDi, hEi, hNi, hni⟩ := HE.out rfl
  have HDI0 := hid hDi
  have HEI := hid hEi
  have HNI := hid hNi
  clear hDi hEi hNi HE
  have CN := hid (qnear_any a0 n0 c0 l0 x1 (HX.out.on HB1.out))
  rw [HP.out] at CN
  go_wp2_with fail
  refine CN.out.mono ?_
  rintro e x2 ⟨rfl, hb2⟩
  have HB2 := hid hb2
  clear hb2 CN
  cases p
  · clear HX HY HD
    go_wp2_with fail
    refine (qawake24_any _).mono ?_
    rintro e x3 ⟨rfl, hb3⟩
    have HB3 := hid (Below.on (Below.on HB1.out HB2.out) hb3)
    go_wp2
    go_ret
    exact ⟨rfl, HB3.out⟩
  have CM := hid (qnear_any a1 n1 c1 l1 x2 (HY.out.on (Below.on HB1.out HB2.out)))
  rw [HQ.out] at CM
  go_wp2_with fail
  refine CM.out.mono ?_
  rintro e x3 ⟨rfl, hb3⟩
  have HB23 := hid (Below.on HB2.out hb3)
  have HB3 := hid (Below.on (Below.on HB1.out HB2.out) hb3)
  clear hb3 CM HB2
  cases q
  · clear HX HY HD
    go_wp2_with fail
    refine (qawake24_any _).mono ?_
    rintro e x4 ⟨rfl, hb4⟩
    have HB4 := hid (Below.on HB3.out hb4)
    go_wp2
    go_ret
    exact ⟨rfl, HB4.out⟩
  have hn0 := nrB_len HP.out
  have hn1 := nrB_len HQ.out
  rw [HXL.out] at hn0
  rw [HYL.out] at hn1
  have HDI := hid (HDI0.out.on HB23.out)
  clear HDI0 HB23
  have HS := hid ((HX.out.on HB3.out).src (P := Try.prog) (t := 22) (e := 40) Try.underlying22)
  have HO := hid (OwM.nil 6 40 x3)
  go_wp2_with (at_builtin; first | (refine wpList_append_own_src _ rfl (.const (.slice none 0 0)) (.tmp 27) 22 22 rfl x3.heap.size 40 i0 (.agg #[.int .i64 0, .int .i64 0, .int .i64 0, .int .i64 0, .int .i64 0, .int .i64 0]) 6 48 Try.underlying22 hi hz0 hz1 hz2 rfl _ _ _ rfl HO.out.own _ _ _ rfl HS.out (by simp only [maxLen, List.length_nil]; omega) (fits48 (by simp only [List.length_nil]; omega) (by omega)) (Nat.le_refl _) ?_; intro v4 x4 o4 g4; have HZ4 := hid (HO.out.grown HXS.out (by rw [HXL.out]; exact o4) g4); clear o4 g4; rw [List.nil_append] at HZ4; obtain ⟨a4, c4, rfl, hR4, _⟩ := HZ4.out.rd; rw [HXL.out] at hR4 ⊢; have HR4 := hid hR4; have HB4 := hid (Below.on HB3.out HZ4.out.bel); have HDI4 := hid (HDI.out.on HZ4.out.bel); have HS4 := hid ((HY.out.on HB4.out).src (P := Try.prog) (t := 22) (e := 40) Try.underlying22); have HO4 := hid (OwM.nil 6 40 x4); clear HS HO hR4 HZ4 HB3 HDI) | (refine wpList_append_own_src _ rfl (.const (.slice none 0 0)) (.tmp 29) 22 22 rfl x4.heap.size 40 i0 (.agg #[.int .i64 0, .int .i64 0, .int .i64 0, .int .i64 0, .int .i64 0, .int .i64 0]) 6 48 Try.underlying22 hi hz0 hz1 hz2 rfl _ _ _ rfl HO4.out.own _ _ _ rfl HS4.out (by simp only [maxLen, List.length_nil]; omega) (fits48 (by simp only [List.length_nil]; omega) (by omega)) (Nat.le_refl _) ?_; intro v5 x5 o5 g5; have HZ := hid (HO4.out.grown HYS.out (by rw [HYL.out]; exact o5) g5); clear o5 g5))
  obtain ⟨a5, c5, rfl, hR5, _⟩ := HZ.out.rd
  rw [List.nil_append, HYL.out] at hR5 ⊢
  have HR5 := hid hR5
  have HB5 := hid (Below.on HB4.out HZ.out.bel)
  have HDI5 := hid (HDI4.out.on HZ.out.bel)
  have HR45 := hid (HR4.out.on HZ.out.bel)
  clear hR5 HS4 HO4 HZ HB4 HDI4 HR4
  go_wp2_with fail
  refine (qchanged_any a4 n0 c4 l0 a5 n1 c5 l1 ai ni ci hs x5 HR45.out HR5.out HDI5.out HXK.out HYK.out (by omega) (by omega) (by omega) (fun d hd => by have := HNI.out d hd; omega)).mono ?_
  rintro e x6 ⟨a6, c6, rfl, h6, hb6⟩
  rw [HEI.out] at h6 ⊢
  have H6 := hid h6
  have HB6 := hid (Below.on HB5.out hb6)
  clear h6 hb6 HB5 HR45 HR5 HDI5
  go_wp2_with fail
  refine (qrchanged_any a0 n0 c0 l0 a1 n1 c1 l1 a2 n2 c2 l2 x6 (HX.out.on HB6.out) (HY.out.on HB6.out) (HD.out.on HB6.out) HXK.out HYK.out).mono ?_
  rintro e x7 ⟨a7, c7, rfl, h7, hb7⟩
  have H7 := hid h7
  have H67 := hid (H6.out.on hb7)
  have HB7 := hid (Below.on HB6.out hb7)
  clear h7 hb7 H6 HB6
  have CS := hid (samerects_any a6 a7 _ c6 _ c7 _ _ x7 H67.out H7.out)
  rw [eqr_same] at CS
  go_wp2_with fail
  refine CS.out.mono ?_
  rintro e x8 ⟨rfl, k, rfl⟩
  have HB8 := hid (below_drewN HB7.out k)
  clear CS H67 H7 HB7
  go_wp2_with fail
  refine (qawake24_any _).mono ?_
  rintro e x9 ⟨rfl, hb9⟩
  have HB9 := hid (Below.on HB8.out hb9)
  go_wp2
  go_ret
  exact ⟨rfl, HB9.out⟩
end Go.Proofs.Ytlkodgmnhphfcaa.repaintChanges
