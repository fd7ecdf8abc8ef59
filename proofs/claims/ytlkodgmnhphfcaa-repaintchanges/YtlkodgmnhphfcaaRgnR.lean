/- The contracts of the program's Union, Subtract, Intersect, Of, Area, Cover, Has. -/
import Derived.Test.YtlkodgmnhphfcaaRgnQ
namespace Go.Proofs.Ytlkodgmnhphfcaa
open Go Go.RowKit

set_option maxRecDepth 100000 in
theorem fn_or : Fn2 57 or := by
  refine ⟨enters_of Try.func57 (by kernel_rfl) rfl, fun p q u => ?_⟩
  cases p <;> cases q
  all_goals
    go_enter Try.func57, Try.ntmps57
    go_wp2
    go_ret
    exact ⟨rfl, rfl⟩




/-- What comes of two regions; nil of others. -/
def unn (f : Bool → Bool → Bool) (l m : List Rc) : List Rc := if rgn l = true ∧ rgn m = true then mk f l m else []
theorem unn_ok {f : Bool → Bool → Bool} (hf : f false false = false) (l m : List Rc) : ∀ r ∈ unn f l m, r.Ok := fun r hr => by
  unfold unn at hr
  split at hr
  · rename_i h
    exact ((mk_all hf (rgn_iff.1 h.1).ck (rgn_iff.1 h.2).ck).1.ck r hr).ok
  · cases hr
theorem unn_reg {f : Bool → Bool → Bool} {l m : List Rc} (hl : Reg l) (hm : Reg m) : unn f l m = mk f l m := by rw [unn, if_pos ⟨rgn_iff.2 hl, rgn_iff.2 hm⟩]

set_option maxRecDepth 100000 in
set_option maxHeartbeats 1000000 in
theorem union_any (a a' : Option Addr) (n c n' c' : Nat) (l m : List Rc) (w : World) (h : RdC w a n c l) (h' : RdC w a' n' c' m) (hn : n + n' ≤ 4096) :
    Calls Try.prog 44 #[.slice a n c, .slice a' n' c'] w (Ret w (unn or l m)) := by
  have H := hid h
  have H' := hid h'
  have C1 := hid (fun u hu => regcheck_any a n c l u hu)
  have C2 := hid (fun u hu => regcheck_any a' n' c' m u hu)
  have HOK := hid (unn_ok (f := or) rfl l m)
  clear h h'
  cases h1 : rgn l
  · have HU : Hid (unn or l m = []) := by rw [Hid, unn, if_neg (by rw [h1]; simp)]
    rw [h1] at C1
    go_enter Try.func44, Try.ntmps44
    go_wp2_with fail
    refine (C1.out _ H.out).mono ?_
    rintro e w1 ⟨rfl, hb1⟩
    go_wp2
    go_ret
    rw [HU.out]
    exact ⟨none, 0, rfl, RdC.nil _, hb1⟩
  · rw [h1] at C1
    cases h2 : rgn m
    · have HU : Hid (unn or l m = []) := by rw [Hid, unn, if_neg (by rw [h2]; simp)]
      rw [h2] at C2
      go_enter Try.func44, Try.ntmps44
      go_wp2_with fail
      refine (C1.out _ H.out).mono ?_
      rintro e w1 ⟨rfl, hb1⟩
      go_wp2_with fail
      refine (C2.out _ (H'.out.on hb1)).mono ?_
      rintro e w2 ⟨rfl, hb2⟩
      go_wp2
      go_ret
      rw [HU.out]
      exact ⟨none, 0, rfl, RdC.nil _, Below.on hb1 hb2⟩
    · have HU : Hid (unn or l m = mk or l m) := by rw [Hid, unn, if_pos ⟨h1, h2⟩]
      rw [h2] at C2
      have CC := hid (fun u hu hu' => combine_any a a' n c n' c' l m 57 or u hu hu' (rgn_iff.1 h1).bands (rgn_iff.1 h2).bands rfl fn_or hn)
      rw [← HU.out] at CC
      go_enter Try.func44, Try.ntmps44
      go_wp2_with fail
      refine (C1.out _ H.out).mono ?_
      rintro e w1 ⟨rfl, hb1⟩
      go_wp2_with fail
      refine (C2.out _ (H'.out.on hb1)).mono ?_
      rintro e w2 ⟨rfl, hb2⟩
      have HB := hid (Below.on hb1 hb2)
      clear hb1 hb2
      go_wp2_with fail
      refine (CC.out _ (H.out.on HB.out) (H'.out.on HB.out)).mono ?_
      rintro e w3 ⟨v3, rfl, h3⟩
      have H3 := hid ((h3.base HB.out).ret HOK.out)
      clear h3
      go_wp2
      go_ret
      exact H3.out



set_option maxRecDepth 100000 in
set_option maxHeartbeats 1000000 in
theorem of_any (r : Rc) (ok : r.Ok) (w : World) : Calls Try.prog 45 #[.agg #[.int .i64 r.x, .int .i64 r.y, .int .i64 r.w, .int .i64 r.h]] w (Ret w (ofl r)) := by
  have CB := hid (fun u => bound_any r ok u)
  have CE := hid (fun u => empty_any (bnd r) u)
  go_enter Try.func45, Try.ntmps45
  go_wp2_with fail
  refine (CB.out _).mono ?_
  rintro e w1 ⟨rfl, hb1⟩
  obtain ⟨hX, hw⟩ := box1 r hb1
  have HX := hid (hX.st (bnd r))
  have HW := hid (below_st hw (Nat.le_refl _) (bnd r))
  obtain ⟨c0, c1, c2, c3⟩ := hX.all
  have fz := hX.fz
  clear hb1 hX hw CB
  cases he : emp (bnd r)
  · rw [he] at CE
    have HU : Hid (ofl r = [bnd r]) := by rw [Hid, ofl, if_neg (by rw [he]; decide)]
    have HK : Hid (Ck (bnd r)) := (bnd_cases r).resolve_left (by rw [he]; decide)
    go_wp2_with fail
    refine (CE.out _).mono ?_
    rintro e w2 ⟨rfl, hb2⟩
    have hX2 : Bx w2 w.heap.size (bnd r) := HX.out.on hb2
    have HW2 : Hid (Below w.heap.size w w2) := Below.on HW.out hb2
    obtain ⟨d0, d1, d2, d3⟩ := hX2.all
    have HO : Hid (OwC w (w2.alloc (.cells #[.int .i64 (bnd r).x, .int .i64 (bnd r).y, .int .i64 (bnd r).w, .int .i64 (bnd r).h] 36)) (.slice (some ⟨w2.heap.size, 0, none⟩) 1 1) [bnd r]) := ⟨World.ownsRow_lit w2 _ 1 HW2.out.size (by decide) rfl, HW2.out.alloc HW2.out.size _⟩
    clear hX2 hb2 HX HW c0 c1 c2 c3 fz
    go_wp2
    go_ret
    rw [HU.out]
    exact HO.out.ret (fun x hx => by simp only [List.mem_singleton] at hx; rw [hx]; exact HK.out.ok)
  · rw [he] at CE
    have HU : Hid (ofl r = []) := by rw [Hid, ofl, if_pos he]
    go_wp2_with fail
    refine (CE.out _).mono ?_
    rintro e w2 ⟨rfl, hb2⟩
    have HW2 : Hid (Below w.heap.size w w2) := Below.on HW.out hb2
    clear hb2
    go_wp2
    go_ret
    rw [HU.out]
    exact ⟨none, 0, rfl, RdC.nil _, HW2.out⟩

end Go.Proofs.Ytlkodgmnhphfcaa
