/- The document's Check, Make, Of; Rects, few, made. -/
import Derived.Test.YtlkodgmnhphfcaaRgfE
namespace Go.Proofs.Ytlkodgmnhphfcaa
open Go Go.RowKit

theorem fH0 : fH 0 = or := rfl
theorem fH1 : fH 1 = sub := rfl
theorem fH2 : fH 2 = and := rfl
theorem eqr_rgn {l : List Rc} (hk : ∀ r ∈ l, Ck r) : eqr l (mk or l []) = rgn l := by
  rw [Bool.eq_iff_iff, eqr_iff, rgn_iff, ← mk_reg hk]
  exact ⟨fun h => h.symm, fun h => h.symm⟩

set_option maxRecDepth 100000 in
set_option maxHeartbeats 1000000 in
theorem rregcheck_any (a : Option Addr) (n c : Nat) (l : List Rc) (w : World) (h : RdC w a n c l) (hn : n ≤ 4096) :
    Calls Try.prog 12 #[.slice a n c] w fun e w' => e = .returned (.bool (rgn l)) ∧ Below w.heap.size w w' := by
  have H := hid h
  have HL := hid h.len
  have hs := h.small
  clear h
  go_enter Try.func12, Try.ntmps12
  go_wp2
  go_loopw [3] (fun i wr => ∃ j : Nat, i = .int .i64 j ∧ j ≤ n ∧ (∀ k r, k < j → l[k]? = some r → Ck r) ∧ RowKit.Below w.heap.size w wr) (fun i _ => n - (numOf i).toNat)
  case atStart => exact ⟨0, rfl, by omega, fun k r hk => absurd hk (by omega), Below.refl _ _⟩
  case round =>
    obtain ⟨j, rfl, hj, hK, hb⟩ := hrel
    have HK := hid hK
    have HB := hid hb
    clear hK hb
    by_cases hgo : j < n
    · have e1 : decide ((j : Int) < n) = true := decide_eq_true (by omega)
      have e2 : (j : Int) < n := by omega
      obtain ⟨b, off, r, rfl, _, hr, ok, he⟩ := (H.out.on HB.out).el hgo
      obtain ⟨_, c0, c1, c2, c3⟩ := he
      have HR := hid hr
      have CC := hid (fun w => rcheck_any r w)
      clear hr ok
      cases hd : dck r
      · rw [hd] at CC
        have HN := hid (rgn_ck HR.out hd)
        go_wp2_with fail
        refine (CC.out _).mono ?_
        rintro e w2 ⟨rfl, hb2⟩
        have HB2 := hid (Below.on HB.out hb2)
        clear hb2
        go_wp2
        go_ret
        rw [HN.out]
        exact ⟨rfl, HB2.out⟩
      · rw [hd] at CC
        have HK2 : Hid (∀ k x, k < j + 1 → l[k]? = some x → Ck x) := fun k x hk hx => by
          rcases Nat.lt_or_ge k j with h | h
          · exact HK.out k x h hx
          · obtain rfl : k = j := by omega
            rw [HR.out] at hx
            cases hx
            exact dck_iff.1 hd
        go_wp2_with fail
        refine (CC.out _).mono ?_
        rintro e w2 ⟨rfl, hb2⟩
        have HB2 := hid (Below.on HB.out hb2)
        clear hb2
        go_wp2
        go_roundw
        case rel => exact ⟨j + 1, by go_num, by omega, HK2.out, HB2.out⟩
        case measure => simp [numOf]; omega
    · have e1 : decide ((j : Int) < n) = false := decide_eq_false (by omega)
      obtain rfl : j = n := by omega
      have HC2 : Hid (∀ x ∈ l, Ck x) := fun x hx => by
        obtain ⟨k, hk, e⟩ := List.mem_iff_getElem.1 hx
        exact HK.out k x (by rw [← HL.out]; exact hk) (by rw [List.getElem?_eq_getElem hk, e])
      have CM := hid (rmake1_any a none j c 0 0 l [] 0 wr (H.out.on HB.out) (RdC.nil _) HC2.out (by simp) (by omega))
      rw [fH0] at CM
      have HE := hid (eqr_rgn HC2.out)
      have HMO : Hid (∀ r ∈ mk or l [], r.Ok) := fun r hr => ((mk_all (f := or) rfl HC2.out (by simp)).1.ck r hr).ok
      go_wp2_with fail
      refine CM.out.mono ?_
      rintro e w2 ⟨v2, rfl, h2⟩
      obtain ⟨a2, c2, rfl, r2⟩ := rdc_of_owns h2.own HMO.out
      have CS := hid (rsame_any a a2 j c (mk or l []).length c2 l (mk or l []) w2 (H.out.on (Below.on HB.out h2.bel)) r2)
      rw [HE.out] at CS
      have HB2 := hid (Below.on HB.out h2.bel)
      clear h2 r2 CM
      go_wp2_with fail
      refine CS.out.mono ?_
      rintro e w3 ⟨rfl, q3, rfl⟩
      go_wp2
      go_ret
      exact ⟨rfl, below_drewN HB2.out _⟩

set_option maxRecDepth 100000 in
set_option maxHeartbeats 1000000 in
theorem rmake_any (a a' : Option Addr) (n c n' c' : Nat) (l m : List Rc) (how : Int) (w : World) (h : RdC w a n c l) (h' : RdC w a' n' c' m) (hn : n + n' ≤ 4096) :
    Calls Try.prog 46 #[.slice a n c, .slice a' n' c', .int .i64 how] w (Ret w (unn (fH how) l m)) := by
  have H := hid h
  have H' := hid h'
  have C1 := hid (fun u hu => rregcheck_any a n c l u hu (by omega))
  have C2 := hid (fun u hu => rregcheck_any a' n' c' m u hu (by omega))
  have HOK := hid (unn_ok (f := fH how) (fH_ff how) l m)
  clear h h'
  cases h1 : rgn l
  · have HU : Hid (unn (fH how) l m = []) := by rw [Hid, unn, if_neg (by rw [h1]; simp)]
    rw [h1] at C1
    go_enter Try.func46, Try.ntmps46
    go_wp2_with fail
    refine (C1.out _ H.out).mono ?_
    rintro e w1 ⟨rfl, hb1⟩
    go_wp2
    go_ret
    rw [HU.out]
    exact ⟨none, 0, rfl, RdC.nil _, hb1⟩
  · rw [h1] at C1
    cases h2 : rgn m
    · have HU : Hid (unn (fH how) l m = []) := by rw [Hid, unn, if_neg (by rw [h2]; simp)]
      rw [h2] at C2
      go_enter Try.func46, Try.ntmps46
      go_wp2_with fail
      refine (C1.out _ H.out).mono ?_
      rintro e w1 ⟨rfl, hb1⟩
      go_wp2_with fail
      refine (C2.out _ (H'.out.on hb1)).mono ?_
      rintro e w2 ⟨rfl, hb2⟩
      go_wp2
      go_ret
      rw [HU.out]
      exact ⟨none, 0, rfl, RdC.nil _, Below.on hb1 hb2⟩
    · have HU : Hid (unn (fH how) l m = mk (fH how) l m) := by rw [Hid, unn, if_pos ⟨h1, h2⟩]
      rw [h2] at C2
      have CC := hid (fun u hu hu' => rmake1_any a a' n c n' c' l m how u hu hu' (rgn_iff.1 h1).ck (rgn_iff.1 h2).ck hn)
      rw [← HU.out] at CC
      go_enter Try.func46, Try.ntmps46
      go_wp2_with fail
      refine (C1.out _ H.out).mono ?_
      rintro e w1 ⟨rfl, hb1⟩
      go_wp2_with fail
      refine (C2.out _ (H'.out.on hb1)).mono ?_
      rintro e w2 ⟨rfl, hb2⟩
      have HB := hid (Below.on hb1 hb2)
      clear hb1 hb2
      go_wp2_with fail
      refine (CC.out _ (H.out.on HB.out) (H'.out.on HB.out)).mono ?_
      rintro e w3 ⟨v3, rfl, h3⟩
      have H3 := hid ((h3.base HB.out).ret HOK.out)
      clear h3
      go_wp2
      go_ret
      exact H3.out

set_option maxRecDepth 100000 in
set_option maxHeartbeats 1000000 in
theorem rofl_any (r : Rc) (ok : r.Ok) (w : World) : Calls Try.prog 47 #[.agg #[.int .i64 r.x, .int .i64 r.y, .int .i64 r.w, .int .i64 r.h]] w (Ret w (ofl r)) := by
  have CB := hid (fun u => rbound_any r ok u)
  have CE := hid (fun u => rempty_any (bnd r) u)
  go_enter Try.func47, Try.ntmps47
  go_wp2_with fail
  refine (CB.out _).mono ?_
  rintro e w1 ⟨rfl, hb1⟩
  obtain ⟨_, hw⟩ := box1 r hb1
  have HX := hid (bx_new w1 (bnd r))
  have HW := hid (Below.on hw (below_new w1 (ob (bnd r))))
  rw [ob] at HW
  clear hb1 hw CB
  cases he : emp (bnd r)
  · rw [he] at CE
    have HU : Hid (ofl r = [bnd r]) := by rw [Hid, ofl, if_neg (by rw [he]; decide)]
    have HK : Hid (Ck (bnd r)) := (bnd_cases r).resolve_left (by rw [he]; decide)
    go_wp2_with fail
    refine (CE.out _).mono ?_
    rintro e w2 ⟨rfl, hb2⟩
    have hX2 : Bx w2 w1.heap.size (bnd r) := HX.out.on hb2
    have HW2 : Hid (Below w.heap.size w w2) := Below.on HW.out hb2
    obtain ⟨d0, d1, d2, d3⟩ := hX2.all
    have HO : Hid (OwC w (w2.alloc (.cells #[.int .i64 (bnd r).x, .int .i64 (bnd r).y, .int .i64 (bnd r).w, .int .i64 (bnd r).h] 36)) (.slice (some ⟨w2.heap.size, 0, none⟩) 1 1) [bnd r]) := ⟨World.ownsRow_lit w2 _ 1 HW2.out.size (by decide) rfl, HW2.out.alloc HW2.out.size _⟩
    clear hX2 hb2 HX HW
    go_wp2
    go_ret
    rw [HU.out]
    exact HO.out.ret (fun x hx => by simp only [List.mem_singleton] at hx; rw [hx]; exact HK.out.ok)
  · rw [he] at CE
    have HU : Hid (ofl r = []) := by rw [Hid, ofl, if_pos he]
    go_wp2_with fail
    refine (CE.out _).mono ?_
    rintro e w2 ⟨rfl, hb2⟩
    have HW2 : Hid (Below w.heap.size w w2) := Below.on HW.out hb2
    clear hb2
    go_wp2
    go_ret
    rw [HU.out]
    exact ⟨none, 0, rfl, RdC.nil _, HW2.out⟩

set_option maxRecDepth 100000 in
set_option maxHeartbeats 1000000 in
theorem rects_any (a : Option Addr) (n c : Nat) (l : List Rc) (w : World) (h : RdC w a n c l) (hn : n ≤ 1000000) : Calls Try.prog 13 #[.slice a n c] w (Ret w l) := by
  obtain ⟨i0, hi, hz0, hz1, hz2⟩ := info3 infoC
  have HSR := hid (h.src (P := Try.prog) (t := 30) Try.underlying30)
  have HL := hid h.len
  have HOK := hid h.ok
  have HFIN : Hid (∀ v' w', w'.ownsRow w.heap.size 36 4 v' (0 + n) ([] ++ rccs l) → w.grownBy w' (Value.slice none 0 0).ownBlock → Ret w l (.returned v') w') := fun v' w' o g => by
    rw [Nat.zero_add, List.nil_append, ← HL.out] at o
    exact OwC.ret ⟨o, (Below.refl _ _).grown g (Nat.le_refl _) (fun k hk => by cases hk)⟩ HOK.out
  clear h
  go_enter Try.func13, Try.ntmps13
  go_wp2_with (at_builtin; refine wpList_append_own_src _ rfl (.const (.slice none 0 0)) (.tmp 3) 30 30 rfl w.heap.size 36 i0 (.agg #[.int .i64 0, .int .i64 0, .int .i64 0, .int .i64 0]) 4 32 Try.underlying30 hi hz0 hz1 hz2 rfl (.slice none 0 0) 0 [] rfl (World.ownsRow_nil _ _ _ _) _ _ _ rfl HSR.out (by simp only [maxLen]; omega) (fits32 (by omega)) (Nat.le_refl _) ?_; intro v9 w9 o9 g9; have H9 := hid (HFIN.out _ _ o9 g9); clear o9 g9 HFIN HSR)
  go_wp2
  go_ret
  exact H9.out
end Go.Proofs.Ytlkodgmnhphfcaa
