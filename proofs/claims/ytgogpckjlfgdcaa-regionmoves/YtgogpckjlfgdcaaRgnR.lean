/- The contracts of the program's Union, Subtract, Intersect, Of, Area, Cover, Has. -/
import Derived.Test.YtgogpckjlfgdcaaRgnQ
namespace Go.Proofs.Ytgogpckjlfgdcaa
open Go Go.RowKit

set_option maxRecDepth 100000 in
theorem fn_or : Fn2 43 or := by
  refine ⟨enters_of Try.func43 (by kernel_rfl) rfl, fun p q u => ?_⟩
  cases p <;> cases q
  all_goals
    go_enter Try.func43, Try.ntmps43
    go_wp2
    go_ret
    exact ⟨rfl, rfl⟩

set_option maxRecDepth 100000 in
theorem fn_sub : Fn2 44 sub := by
  refine ⟨enters_of Try.func44 (by kernel_rfl) rfl, fun p q u => ?_⟩
  cases p <;> cases q
  all_goals
    go_enter Try.func44, Try.ntmps44
    go_wp2
    go_ret
    exact ⟨rfl, rfl⟩

set_option maxRecDepth 100000 in
theorem fn_and : Fn2 45 and := by
  refine ⟨enters_of Try.func45 (by kernel_rfl) rfl, fun p q u => ?_⟩
  cases p <;> cases q
  all_goals
    go_enter Try.func45, Try.ntmps45
    go_wp2
    go_ret
    exact ⟨rfl, rfl⟩

set_option maxRecDepth 100000 in
theorem fn_fst : Fn2 49 fst1 := by
  refine ⟨enters_of Try.func49 (by kernel_rfl) rfl, fun p q u => ?_⟩
  cases p <;> cases q
  all_goals
    go_enter Try.func49, Try.ntmps49
    go_wp2
    go_ret
    exact ⟨rfl, rfl⟩

/-- What comes of two regions; nil of others. -/
def unn (f : Bool → Bool → Bool) (l m : List Rc) : List Rc := if rgn l = true ∧ rgn m = true then mk f l m else []
theorem unn_ok {f : Bool → Bool → Bool} (hf : f false false = false) (l m : List Rc) : ∀ r ∈ unn f l m, r.Ok := fun r hr => by
  unfold unn at hr
  split at hr
  · rename_i h
    exact ((mk_all hf (rgn_iff.1 h.1).ck (rgn_iff.1 h.2).ck).1.ck r hr).ok
  · cases hr
theorem unn_reg {f : Bool → Bool → Bool} {l m : List Rc} (hl : Reg l) (hm : Reg m) : unn f l m = mk f l m := by rw [unn, if_pos ⟨rgn_iff.2 hl, rgn_iff.2 hm⟩]

set_option maxRecDepth 100000 in
set_option maxHeartbeats 1000000 in
theorem union_any (a a' : Option Addr) (n c n' c' : Nat) (l m : List Rc) (w : World) (h : RdC w a n c l) (h' : RdC w a' n' c' m) (hn : n + n' ≤ 4096) :
    Calls Try.prog 17 #[.slice a n c, .slice a' n' c'] w (Ret w (unn or l m)) := by
  have H := hid h
  have H' := hid h'
  have C1 := hid (fun u hu => regcheck_any a n c l u hu)
  have C2 := hid (fun u hu => regcheck_any a' n' c' m u hu)
  have HOK := hid (unn_ok (f := or) rfl l m)
  clear h h'
  cases h1 : rgn l
  · have HU : Hid (unn or l m = []) := by rw [Hid, unn, if_neg (by rw [h1]; simp)]
    rw [h1] at C1
    go_enter Try.func17, Try.ntmps17
    go_wp2_with fail
    refine (C1.out _ H.out).mono ?_
    rintro e w1 ⟨rfl, hb1⟩
    go_wp2
    go_ret
    rw [HU.out]
    exact ⟨none, 0, rfl, RdC.nil _, hb1⟩
  · rw [h1] at C1
    cases h2 : rgn m
    · have HU : Hid (unn or l m = []) := by rw [Hid, unn, if_neg (by rw [h2]; simp)]
      rw [h2] at C2
      go_enter Try.func17, Try.ntmps17
      go_wp2_with fail
      refine (C1.out _ H.out).mono ?_
      rintro e w1 ⟨rfl, hb1⟩
      go_wp2_with fail
      refine (C2.out _ (H'.out.on hb1)).mono ?_
      rintro e w2 ⟨rfl, hb2⟩
      go_wp2
      go_ret
      rw [HU.out]
      exact ⟨none, 0, rfl, RdC.nil _, Below.on hb1 hb2⟩
    · have HU : Hid (unn or l m = mk or l m) := by rw [Hid, unn, if_pos ⟨h1, h2⟩]
      rw [h2] at C2
      have CC := hid (fun u hu hu' => combine_any a a' n c n' c' l m 43 or u hu hu' (rgn_iff.1 h1).bands (rgn_iff.1 h2).bands rfl fn_or hn)
      rw [← HU.out] at CC
      go_enter Try.func17, Try.ntmps17
      go_wp2_with fail
      refine (C1.out _ H.out).mono ?_
      rintro e w1 ⟨rfl, hb1⟩
      go_wp2_with fail
      refine (C2.out _ (H'.out.on hb1)).mono ?_
      rintro e w2 ⟨rfl, hb2⟩
      have HB := hid (Below.on hb1 hb2)
      clear hb1 hb2
      go_wp2_with fail
      refine (CC.out _ (H.out.on HB.out) (H'.out.on HB.out)).mono ?_
      rintro e w3 ⟨v3, rfl, h3⟩
      have H3 := hid ((h3.base HB.out).ret HOK.out)
      clear h3
      go_wp2
      go_ret
      exact H3.out

set_option maxRecDepth 100000 in
set_option maxHeartbeats 1000000 in
theorem subtract_any (a a' : Option Addr) (n c n' c' : Nat) (l m : List Rc) (w : World) (h : RdC w a n c l) (h' : RdC w a' n' c' m) (hn : n + n' ≤ 4096) :
    Calls Try.prog 19 #[.slice a n c, .slice a' n' c'] w (Ret w (unn sub l m)) := by
  have H := hid h
  have H' := hid h'
  have C1 := hid (fun u hu => regcheck_any a n c l u hu)
  have C2 := hid (fun u hu => regcheck_any a' n' c' m u hu)
  have HOK := hid (unn_ok (f := sub) rfl l m)
  clear h h'
  cases h1 : rgn l
  · have HU : Hid (unn sub l m = []) := by rw [Hid, unn, if_neg (by rw [h1]; simp)]
    rw [h1] at C1
    go_enter Try.func19, Try.ntmps19
    go_wp2_with fail
    refine (C1.out _ H.out).mono ?_
    rintro e w1 ⟨rfl, hb1⟩
    go_wp2
    go_ret
    rw [HU.out]
    exact ⟨none, 0, rfl, RdC.nil _, hb1⟩
  · rw [h1] at C1
    cases h2 : rgn m
    · have HU : Hid (unn sub l m = []) := by rw [Hid, unn, if_neg (by rw [h2]; simp)]
      rw [h2] at C2
      go_enter Try.func19, Try.ntmps19
      go_wp2_with fail
      refine (C1.out _ H.out).mono ?_
      rintro e w1 ⟨rfl, hb1⟩
      go_wp2_with fail
      refine (C2.out _ (H'.out.on hb1)).mono ?_
      rintro e w2 ⟨rfl, hb2⟩
      go_wp2
      go_ret
      rw [HU.out]
      exact ⟨none, 0, rfl, RdC.nil _, Below.on hb1 hb2⟩
    · have HU : Hid (unn sub l m = mk sub l m) := by rw [Hid, unn, if_pos ⟨h1, h2⟩]
      rw [h2] at C2
      have CC := hid (fun u hu hu' => combine_any a a' n c n' c' l m 44 sub u hu hu' (rgn_iff.1 h1).bands (rgn_iff.1 h2).bands rfl fn_sub hn)
      rw [← HU.out] at CC
      go_enter Try.func19, Try.ntmps19
      go_wp2_with fail
      refine (C1.out _ H.out).mono ?_
      rintro e w1 ⟨rfl, hb1⟩
      go_wp2_with fail
      refine (C2.out _ (H'.out.on hb1)).mono ?_
      rintro e w2 ⟨rfl, hb2⟩
      have HB := hid (Below.on hb1 hb2)
      clear hb1 hb2
      go_wp2_with fail
      refine (CC.out _ (H.out.on HB.out) (H'.out.on HB.out)).mono ?_
      rintro e w3 ⟨v3, rfl, h3⟩
      have H3 := hid ((h3.base HB.out).ret HOK.out)
      clear h3
      go_wp2
      go_ret
      exact H3.out

set_option maxRecDepth 100000 in
set_option maxHeartbeats 1000000 in
theorem intersect_any (a a' : Option Addr) (n c n' c' : Nat) (l m : List Rc) (w : World) (h : RdC w a n c l) (h' : RdC w a' n' c' m) (hn : n + n' ≤ 4096) :
    Calls Try.prog 20 #[.slice a n c, .slice a' n' c'] w (Ret w (unn and l m)) := by
  have H := hid h
  have H' := hid h'
  have C1 := hid (fun u hu => regcheck_any a n c l u hu)
  have C2 := hid (fun u hu => regcheck_any a' n' c' m u hu)
  have HOK := hid (unn_ok (f := and) rfl l m)
  clear h h'
  cases h1 : rgn l
  · have HU : Hid (unn and l m = []) := by rw [Hid, unn, if_neg (by rw [h1]; simp)]
    rw [h1] at C1
    go_enter Try.func20, Try.ntmps20
    go_wp2_with fail
    refine (C1.out _ H.out).mono ?_
    rintro e w1 ⟨rfl, hb1⟩
    go_wp2
    go_ret
    rw [HU.out]
    exact ⟨none, 0, rfl, RdC.nil _, hb1⟩
  · rw [h1] at C1
    cases h2 : rgn m
    · have HU : Hid (unn and l m = []) := by rw [Hid, unn, if_neg (by rw [h2]; simp)]
      rw [h2] at C2
      go_enter Try.func20, Try.ntmps20
      go_wp2_with fail
      refine (C1.out _ H.out).mono ?_
      rintro e w1 ⟨rfl, hb1⟩
      go_wp2_with fail
      refine (C2.out _ (H'.out.on hb1)).mono ?_
      rintro e w2 ⟨rfl, hb2⟩
      go_wp2
      go_ret
      rw [HU.out]
      exact ⟨none, 0, rfl, RdC.nil _, Below.on hb1 hb2⟩
    · have HU : Hid (unn and l m = mk and l m) := by rw [Hid, unn, if_pos ⟨h1, h2⟩]
      rw [h2] at C2
      have CC := hid (fun u hu hu' => combine_any a a' n c n' c' l m 45 and u hu hu' (rgn_iff.1 h1).bands (rgn_iff.1 h2).bands rfl fn_and hn)
      rw [← HU.out] at CC
      go_enter Try.func20, Try.ntmps20
      go_wp2_with fail
      refine (C1.out _ H.out).mono ?_
      rintro e w1 ⟨rfl, hb1⟩
      go_wp2_with fail
      refine (C2.out _ (H'.out.on hb1)).mono ?_
      rintro e w2 ⟨rfl, hb2⟩
      have HB := hid (Below.on hb1 hb2)
      clear hb1 hb2
      go_wp2_with fail
      refine (CC.out _ (H.out.on HB.out) (H'.out.on HB.out)).mono ?_
      rintro e w3 ⟨v3, rfl, h3⟩
      have H3 := hid ((h3.base HB.out).ret HOK.out)
      clear h3
      go_wp2
      go_ret
      exact H3.out

set_option maxRecDepth 100000 in
set_option maxHeartbeats 1000000 in
theorem of_any (r : Rc) (ok : r.Ok) (w : World) : Calls Try.prog 15 #[.agg #[.int .i64 r.x, .int .i64 r.y, .int .i64 r.w, .int .i64 r.h]] w (Ret w (ofl r)) := by
  have CB := hid (fun u => bound_any r ok u)
  have CE := hid (fun u => empty_any (bnd r) u)
  go_enter Try.func15, Try.ntmps15
  go_wp2_with fail
  refine (CB.out _).mono ?_
  rintro e w1 ⟨rfl, hb1⟩
  obtain ⟨hX, hw⟩ := box1 r hb1
  have HX := hid (hX.st (bnd r))
  have HW := hid (below_st hw (Nat.le_refl _) (bnd r))
  obtain ⟨c0, c1, c2, c3⟩ := hX.all
  have fz := hX.fz
  clear hb1 hX hw CB
  cases he : emp (bnd r)
  · rw [he] at CE
    have HU : Hid (ofl r = [bnd r]) := by rw [Hid, ofl, if_neg (by rw [he]; decide)]
    have HK : Hid (Ck (bnd r)) := (bnd_cases r).resolve_left (by rw [he]; decide)
    go_wp2_with fail
    refine (CE.out _).mono ?_
    rintro e w2 ⟨rfl, hb2⟩
    have hX2 : Bx w2 w.heap.size (bnd r) := HX.out.on hb2
    have HW2 : Hid (Below w.heap.size w w2) := Below.on HW.out hb2
    obtain ⟨d0, d1, d2, d3⟩ := hX2.all
    have HO : Hid (OwC w (w2.alloc (.cells #[.int .i64 (bnd r).x, .int .i64 (bnd r).y, .int .i64 (bnd r).w, .int .i64 (bnd r).h] 24)) (.slice (some ⟨w2.heap.size, 0, none⟩) 1 1) [bnd r]) := ⟨World.ownsRow_lit w2 _ 1 HW2.out.size (by decide) rfl, HW2.out.alloc HW2.out.size _⟩
    clear hX2 hb2 HX HW c0 c1 c2 c3 fz
    go_wp2
    go_ret
    rw [HU.out]
    exact HO.out.ret (fun x hx => by simp only [List.mem_singleton] at hx; rw [hx]; exact HK.out.ok)
  · rw [he] at CE
    have HU : Hid (ofl r = []) := by rw [Hid, ofl, if_pos he]
    go_wp2_with fail
    refine (CE.out _).mono ?_
    rintro e w2 ⟨rfl, hb2⟩
    have HW2 : Hid (Below w.heap.size w w2) := Below.on HW.out hb2
    clear hb2
    go_wp2
    go_ret
    rw [HU.out]
    exact ⟨none, 0, rfl, RdC.nil _, HW2.out⟩

set_option maxRecDepth 100000 in
set_option maxHeartbeats 1000000 in
theorem area_any (a : Option Addr) (n c : Nat) (l : List Rc) (w : World) (h : RdC w a n c l) (hn : n ≤ 4096) :
    Calls Try.prog 25 #[.slice a n c] w fun e w' => e = .returned (.int .i64 (if rgn l = true then area l else 0)) ∧ Below w.heap.size w w' := by
  have H := hid h
  have C1 := hid (fun u hu => regcheck_any a n c l u hu)
  have HL := hid h.len
  have hs := h.small
  clear h
  cases h1 : rgn l
  · rw [h1] at C1
    go_enter Try.func25, Try.ntmps25
    go_wp2_with fail
    refine (C1.out _ H.out).mono ?_
    rintro e w1 ⟨rfl, hb1⟩
    go_wp2
    go_ret
    exact ⟨rfl, hb1⟩
  · rw [h1] at C1
    have KC := hid (rgn_iff.1 h1).ck
    go_enter Try.func25, Try.ntmps25
    go_wp2_with fail
    refine (C1.out _ H.out).mono ?_
    rintro e w1 ⟨rfl, hb1⟩
    have HB1 := hid hb1
    clear hb1
    go_wp2
    go_loopw [3, 11] (fun x i wr => ∃ j : Nat, i = .int .i64 j ∧ x = .int .i64 (area (l.take j)) ∧ j ≤ n ∧ RowKit.Below w.heap.size w wr) (fun _ i _ => n - (numOf i).toNat)
    case atStart => exact ⟨0, rfl, rfl, by omega, HB1.out⟩
    case round =>
      obtain ⟨j, rfl, rfl, hj, hb⟩ := hrel
      have HB := hid hb
      clear hb
      by_cases hgo : j < n
      · have e1 : decide ((j : Int) < n) = true := decide_eq_true (by omega)
        obtain ⟨b, off, r, rfl, _, hr, ok, he⟩ := (H.out.on HB.out).el hgo
        obtain ⟨_, c0, c1, c2, c3⟩ := he
        have k := KC.out r (List.mem_of_getElem? hr)
        have h5 := area_low (l := l.take j) (fun x hx => KC.out x (List.mem_of_mem_take hx))
        have h6 : ((l.take j).length : Int) * 1125899906842624 ≤ 4096 * 1125899906842624 := Int.mul_le_mul_of_nonneg_right (by rw [List.length_take]; omega) (by decide)
        have h2 : r.w * r.h ≤ 33554432 * 33554432 := Int.mul_le_mul (by obtain ⟨k1, k2, k3, k4, k5, k6⟩ := k; omega) (by obtain ⟨k1, k2, k3, k4, k5, k6⟩ := k; omega) (by obtain ⟨k1, k2, k3, k4, k5, k6⟩ := k; omega) (by decide)
        have h3 : 0 ≤ r.w * r.h := Int.mul_nonneg (by have := k.w; omega) (by have := k.h; omega)
        have HA : Hid (area (l.take (j + 1)) = area (l.take j) + r.w * r.h) := by
          rw [Hid, List.take_add_one, hr]
          simp [area]
        generalize area (l.take j) = A0 at h5 HA ⊢
        have f1 : IntKind.i64.wrap (r.w * r.h) = r.w * r.h := by rw [IntKind.wrap_i64]; omega
        have f2 : IntKind.i64.wrap (A0 + r.w * r.h) = A0 + r.w * r.h := by rw [IntKind.wrap_i64]; omega
        have HN := hid (Below.on HB.out (below_new wr (ob r)))
        rw [ob] at HN
        clear hr k h5 h6 h2 h3
        go_wp2
        go_roundw
        case rel => exact ⟨j + 1, by go_num, by rw [HA.out], by omega, HN.out⟩
        case measure => simp [numOf]; omega
      · have e1 : decide ((j : Int) < n) = false := decide_eq_false (by omega)
        have HE : Hid (l.take j = l) := List.take_of_length_le (by rw [HL.out]; omega)
        rw [HE.out]
        go_wp2
        go_ret
        exact ⟨rfl, HB.out⟩
end Go.Proofs.Ytgogpckjlfgdcaa
