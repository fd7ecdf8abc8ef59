/- few, made, awake. -/
import Derived.Test.YtgogpckjlfgdcaaRgfF
namespace Go.Proofs.Ytgogpckjlfgdcaa
open Go Go.RowKit

/-- A list by its places. -/
def gl (l : List Rc) (j : Nat) : Rc := (l[j]?).getD rz

set_option maxRecDepth 100000 in
theorem few_any (a : Option Addr) (n c : Nat) (l : List Rc) (w : World) (h : RdC w a n c l) : Calls Try.prog 9 #[.slice a n c] w fun e w' => e = .returned (.bool (decide (n ≤ 12))) ∧ w' = w := by
  have hs := h.small
  clear h
  go_enter Try.func9, Try.ntmps9
  go_wp2
  go_ret
  exact ⟨ret_bool (by rw [Bool.eq_iff_iff]; simp; omega), rfl⟩

set_option maxRecDepth 100000 in
set_option maxHeartbeats 1000000 in
theorem made_any (a : Option Addr) (n c : Nat) (l : List Rc) (w : World) (h : RdC w a n c l) : Calls Try.prog 29 #[.slice a n c] w (Ret w (md (gl l) (min n 7))) := by
  have H := hid h
  have HL := hid h.len
  have hs := h.small
  clear h
  go_enter Try.func29, Try.ntmps29
  go_wp2
  go_loopw [3, 4] (fun s3 s4 wr => ∃ (i : Nat) (a3 : Option Addr) (c3 : Nat), s4 = .int .i64 i ∧ s3 = .slice a3 (md (gl l) i).length c3 ∧ i ≤ n ∧ i ≤ 7 ∧ RdC wr a3 (md (gl l) i).length c3 (md (gl l) i) ∧ RowKit.Below w.heap.size w wr) (fun _ s4 _ => 7 - (numOf s4).toNat)
  case atStart => exact ⟨0, none, 0, rfl, rfl, by omega, by omega, RdC.nil w, Below.refl _ _⟩
  case round =>
    obtain ⟨i, a3, c3, rfl, rfl, hin, hi7, h3, hb⟩ := hrel
    have H3 := hid h3
    have HB := hid hb
    clear h3 hb
    by_cases hgo : i < n
    · have e1 : decide ((i : Int) < n) = true := decide_eq_true (by omega)
      have e3 : (i : Int) < n := by omega
      by_cases hgo7 : i < 7
      · have e2 : decide ((i : Int) < 7) = true := decide_eq_true (by omega)
        obtain ⟨b, off, r, rfl, _, hr, ok, he⟩ := (H.out.on HB.out).el hgo
        obtain ⟨_, d0, d1, d2, d3⟩ := he
        have HG : Hid (gl l i = r) := by rw [Hid, gl, hr]; rfl
        have CO := hid (fun u => rofl_any r ok u)
        have hrem : (i : Int).tmod 3 = ((i % 3 : Nat) : Int) := by rw [Int.tmod_eq_emod_of_nonneg (by omega)]; omega
        have hlen := md_len (gl l) i hi7
        have hol := ofl_length r
        have HMD : Hid (md (gl l) (i + 1) = mk (if i % 3 = 2 then sub else or) (md (gl l) i) (ofl r)) := by rw [Hid, md, HG.out]
        have HRG := hid (md_reg (gl l) i)
        clear hr ok HG
        cases h2 : ((i % 3 : Nat) == 2)
        · have hne : ¬ (i % 3 = 2) := by simpa using h2
          have hq : (((i % 3 : Nat) : Int) == 2) = false := by simp; omega
          have HU : Hid (unn (fH 0) (md (gl l) i) (ofl r) = md (gl l) (i + 1)) := by rw [Hid, HMD.out, if_neg hne, unn_reg HRG.out (ofl_reg r), fH0]
          clear HMD hne
          go_wp2_with fail
          refine (CO.out _).mono ?_
          rintro e w2 ⟨a4, c4, rfl, h4, hb4⟩
          have CM := hid (rmake_any a3 a4 (md (gl l) i).length c3 (ofl r).length c4 (md (gl l) i) (ofl r) 0 w2 (H3.out.on hb4) h4 (by omega))
          rw [HU.out] at CM
          have HB4 := hid (Below.on HB.out hb4)
          clear h4 hb4 CO
          go_wp2_with fail
          refine CM.out.mono ?_
          rintro e w5 ⟨a5, c5, rfl, h5, hb5⟩
          have H5 := hid h5
          have HB5 := hid (Below.on HB4.out hb5)
          clear h5 hb5
          go_wp2
          go_roundw
          case rel => exact ⟨i + 1, a5, c5, by go_num, rfl, by omega, by omega, H5.out, HB5.out⟩
          case measure => simp [numOf]; omega
        · have hne : i % 3 = 2 := by simpa using h2
          have hq : (((i % 3 : Nat) : Int) == 2) = true := by simp; omega
          have HU : Hid (unn (fH 1) (md (gl l) i) (ofl r) = md (gl l) (i + 1)) := by rw [Hid, HMD.out, if_pos hne, unn_reg HRG.out (ofl_reg r), fH1]
          clear HMD hne
          go_wp2_with fail
          refine (CO.out _).mono ?_
          rintro e w2 ⟨a4, c4, rfl, h4, hb4⟩
          have CM := hid (rmake_any a3 a4 (md (gl l) i).length c3 (ofl r).length c4 (md (gl l) i) (ofl r) 1 w2 (H3.out.on hb4) h4 (by omega))
          rw [HU.out] at CM
          have HB4 := hid (Below.on HB.out hb4)
          clear h4 hb4 CO
          go_wp2_with fail
          refine CM.out.mono ?_
          rintro e w5 ⟨a5, c5, rfl, h5, hb5⟩
          have H5 := hid h5
          have HB5 := hid (Below.on HB4.out hb5)
          clear h5 hb5
          go_wp2
          go_roundw
          case rel => exact ⟨i + 1, a5, c5, by go_num, rfl, by omega, by omega, H5.out, HB5.out⟩
          case measure => simp [numOf]; omega
      · have e2 : decide ((i : Int) < 7) = false := decide_eq_false (by omega)
        have HE : Hid (min n 7 = i) := by rw [Hid]; omega
        go_wp2
        go_ret
        rw [HE.out]
        exact ⟨_, _, rfl, H3.out, HB.out⟩
    · have e1 : decide ((i : Int) < n) = false := decide_eq_false (by omega)
      have HE : Hid (min n 7 = i) := by rw [Hid]; omega
      go_wp2
      go_ret
      rw [HE.out]
      exact ⟨_, _, rfl, H3.out, HB.out⟩

theorem rdc_lit (w : World) (r : Rc) (ok : r.Ok) : RdC (w.alloc (.cells #[.int .i64 r.x, .int .i64 r.y, .int .i64 r.w, .int .i64 r.h] 24)) (some ⟨w.heap.size, 0, none⟩) 1 1 [r] := by
  refine ⟨rfl, Nat.le_refl _, by decide, (fun h => by cases h), fun _ => ⟨w.heap.size, 0, rfl, by simp, fun j x hx => ?_⟩, fun x hx => ?_⟩
  · cases j with
    | zero =>
      simp only [List.getElem?_cons_zero, Option.some.injEq] at hx
      subst hx
      have := bx_new w r
      obtain ⟨h0, h1, h2, h3⟩ := this.all
      exact ⟨by simp, h0, h1, h2, h3⟩
    | succ j => simp at hx
  · simp only [List.mem_singleton] at hx
    rw [hx]
    exact ok

theorem ex_union : unn or [⟨0, 0, 2, 2⟩] [⟨2, 0, 2, 2⟩] = [⟨0, 0, 4, 2⟩] := by
  have k1 : Ck ⟨0, 0, 2, 2⟩ := ⟨by decide, by decide, by decide, by decide, by decide, by decide⟩
  have k2 : Ck ⟨2, 0, 2, 2⟩ := ⟨by decide, by decide, by decide, by decide, by decide, by decide⟩
  have k3 : Ck ⟨0, 0, 4, 2⟩ := ⟨by decide, by decide, by decide, by decide, by decide, by decide⟩
  rw [unn_reg (reg_one k1) (reg_one k2)]
  obtain ⟨h1, h2, _⟩ := mk_all (f := or) rfl (reg_one k1).ck (reg_one k2).ck
  refine reg_eq h1 (reg_one k3) fun x y => ?_
  rw [h2, Bool.eq_iff_iff, Bool.or_eq_true, pt_iff, pt_iff, pt_iff]
  simp only [List.mem_singleton, exists_eq_left, has_iff]
  omega
theorem ex_rgn : rgn [⟨0, 0, 4, 2⟩] = true := rgn_iff.2 (reg_one ⟨by decide, by decide, by decide, by decide, by decide, by decide⟩)

set_option maxRecDepth 100000 in
set_option maxHeartbeats 1000000 in
theorem awake_any (w : World) : Calls Try.prog 10 #[] w fun e w' => e = .returned (.bool true) ∧ Below w.heap.size w w' := by
  have r1 := rdc_lit w ⟨0, 0, 2, 2⟩ ⟨by decide, by decide, by decide, by decide⟩
  have r2 := rdc_lit (w.alloc (.cells #[.int .i64 0, .int .i64 0, .int .i64 2, .int .i64 2] 24)) ⟨2, 0, 2, 2⟩ ⟨by decide, by decide, by decide, by decide⟩
  rw [World.size_alloc] at r2
  have CU := hid (union_any (some ⟨w.heap.size, 0, none⟩) (some ⟨w.heap.size + 1, 0, none⟩) 1 1 1 1 [⟨0, 0, 2, 2⟩] [⟨2, 0, 2, 2⟩] _ (r1.on (below_new _ (.cells #[.int .i64 2, .int .i64 0, .int .i64 2, .int .i64 2] 24))) r2 (by decide))
  rw [ex_union] at CU
  have HB0 := hid (below_two w (.cells #[.int .i64 0, .int .i64 0, .int .i64 2, .int .i64 2] 24) (.cells #[.int .i64 2, .int .i64 0, .int .i64 2, .int .i64 2] 24))
  have hg := eqlR_guard
  have q := eqlR ⟨0, 0, 4, 2⟩ ⟨0, 0, 4, 2⟩
  rw [rceq_same] at q
  dsimp only at q
  clear r1 r2
  go_enter Try.func10, Try.ntmps10
  go_wp2_with fail
  refine CU.out.mono ?_
  rintro e w1 ⟨a1, c1, rfl, h1, hb1⟩
  have HB1 := hid (Below.on HB0.out hb1)
  obtain ⟨b, off, rfl, _, hel⟩ := h1.pl (by decide)
  obtain ⟨_, d0, d1, d2, d3⟩ := hel 0 ⟨0, 0, 4, 2⟩ rfl
  simp only [Nat.zero_mul, Nat.add_zero] at d0 d1 d2 d3
  have CH := hid (fun u hu => reghas_any (some ⟨b, off, none⟩) 1 c1 [⟨0, 0, 4, 2⟩] 3 1 (by decide) (by decide) u hu)
  have CA := hid (fun u hu => area_any (some ⟨b, off, none⟩) 1 c1 [⟨0, 0, 4, 2⟩] u hu (by decide))
  rw [ex_rgn, show (true && pt [⟨0, 0, 4, 2⟩] 3 1) = true by decide] at CH
  rw [if_pos ex_rgn, show area [⟨0, 0, 4, 2⟩] = 8 by decide] at CA
  have H1 := hid h1
  clear h1 hb1 hel CU
  go_wp2_with fail
  refine (CH.out _ H1.out).mono ?_
  rintro e w2 ⟨rfl, hb2⟩
  have HB2 := hid (Below.on HB1.out hb2)
  go_wp2_with fail
  refine (CA.out _ (H1.out.on hb2)).mono ?_
  rintro e w3 ⟨rfl, hb3⟩
  have HB3 := hid (Below.on HB2.out hb3)
  clear hb2 hb3
  go_wp2
  go_ret
  exact ⟨rfl, HB3.out⟩
end Go.Proofs.Ytgogpckjlfgdcaa
