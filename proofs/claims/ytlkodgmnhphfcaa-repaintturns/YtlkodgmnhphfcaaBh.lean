/- The document's Check, Make, Of; Rects, few, made. -/
import Derived.Test.YtlkodgmnhphfcaaBg
import Derived.Test.YtlkodgmnhphfcaaBf
import Derived.Test.YtlkodgmnhphfcaaBe
namespace Go.Proofs.Ytlkodgmnhphfcaa
open Go Go.RowKit

theorem fH0 : fH 0 = or := rfl
theorem fH1 : fH 1 = sub := rfl
theorem fH2 : fH 2 = and := rfl
theorem eqr_rgn {l : List Rc} (hk : ∀ r ∈ l, Ck r) : eqr l (mk or l []) = rgn l := by
  rw [Bool.eq_iff_iff, eqr_iff, rgn_iff, ← mk_reg hk]
  exact ⟨fun h => h.symm, fun h => h.symm⟩

set_option maxRecDepth 100000 in
set_option maxHeartbeats 1000000 in
theorem rregcheck_any (a : Option Addr) (n c : Nat) (l : List Rc) (w : World) (h : RdC w a n c l) (hn : n ≤ 4096) :
    Calls Try.prog 12 #[.slice a n c] w fun e w' => e = .returned (.bool (rgn l)) ∧ Below w.heap.size w w' := by
  have H := hid h
  have HL := hid h.len
  have hs := h.small
  clear h
  go_enter Try.func12, Try.ntmps12
  go_wp2
  go_loopw [3] (fun i wr => ∃ j : Nat, i = .int .i64 j ∧ j ≤ n ∧ (∀ k r, k < j → l[k]? = some r → Ck r) ∧ RowKit.Below w.heap.size w wr) (fun i _ => n - (numOf i).toNat)
  case atStart => exact ⟨0, rfl, by omega, fun k r hk => absurd hk (by omega), Below.refl _ _⟩
  case round =>
    obtain ⟨j, rfl, hj, hK, hb⟩ := hrel
    have HK := hid hK
    have HB := hid hb
    clear hK hb
    by_cases hgo : j < n
    · have e1 : decide ((j : Int) < n) = true := decide_eq_true (by omega)
      have e2 : (j : Int) < n := by omega
      obtain ⟨b, off, r, rfl, _, hr, ok, he⟩ := (H.out.on HB.out).el hgo
      obtain ⟨_, c0, c1, c2, c3⟩ := he
      have HR := hid hr
      have CC := hid (fun w => rcheck_any r w)
      clear hr ok
      cases hd : dck r
      · rw [hd] at CC
        have HN := hid (rgn_ck HR.out hd)
        go_wp2_with fail
        refine (CC.out _).mono ?_
        rintro e w2 ⟨rfl, hb2⟩
        have HB2 := hid (Below.on HB.out hb2)
        clear hb2
        go_wp2
        go_ret
        rw [HN.out]
        exact ⟨rfl, HB2.out⟩
      · rw [hd] at CC
        have HK2 : Hid (∀ k x, k < j + 1 → l[k]? = some x → Ck x) := fun k x hk hx => by
          rcases Nat.lt_or_ge k j with h | h
          · exact HK.out k x h hx
          · obtain rfl : k = j := by omega
            rw [HR.out] at hx
            cases hx
            exact dck_iff.1 hd
        go_wp2_with fail
        refine (CC.out _).mono ?_
        rintro e w2 ⟨rfl, hb2⟩
        have HB2 := hid (Below.on HB.out hb2)
        clear hb2
        go_wp2
        go_roundw
        case rel => exact ⟨j + 1, by go_num, by omega, HK2.out, HB2.out⟩
        case measure => simp [numOf]; omega
    · have e1 : decide ((j : Int) < n) = false := decide_eq_false (by omega)
      obtain rfl : j = n := by omega
      have HC2 : Hid (∀ x ∈ l, Ck x) := fun x hx => by
        obtain ⟨k, hk, e⟩ := List.mem_iff_getElem.1 hx
        exact HK.out k x (by rw [← HL.out]; exact hk) (by rw [List.getElem?_eq_getElem hk, e])
      have CM := hid (rmake1_any a none j c 0 0 l [] 0 wr (H.out.on HB.out) (RdC.nil _) HC2.out (by simp) (by omega))
      rw [fH0] at CM
      have HE := hid (eqr_rgn HC2.out)
      have HMO : Hid (∀ r ∈ mk or l [], r.Ok) := fun r hr => ((mk_all (f := or) rfl HC2.out (by simp)).1.ck r hr).ok
      go_wp2_with fail
      refine CM.out.mono ?_
      rintro e w2 ⟨v2, rfl, h2⟩
      obtain ⟨a2, c2, rfl, r2⟩ := rdc_of_owns h2.own HMO.out
      have CS := hid (rsame_any a a2 j c (mk or l []).length c2 l (mk or l []) w2 (H.out.on (Below.on HB.out h2.bel)) r2)
      rw [HE.out] at CS
      have HB2 := hid (Below.on HB.out h2.bel)
      clear h2 r2 CM
      go_wp2_with fail
      refine CS.out.mono ?_
      rintro e w3 ⟨rfl, q3, rfl⟩
      go_wp2
      go_ret
      exact ⟨rfl, below_drewN HB2.out _⟩

set_option maxRecDepth 100000 in
set_option maxHeartbeats 1000000 in
theorem rmake_any (a a' : Option Addr) (n c n' c' : Nat) (l m : List Rc) (how : Int) (w : World) (h : RdC w a n c l) (h' : RdC w a' n' c' m) (hn : n + n' ≤ 4096) :
    Calls Try.prog 46 #[.slice a n c, .slice a' n' c', .int .i64 how] w (Ret w (unn (fH how) l m)) := by
  have H := hid h
  have H' := hid h'
  have C1 := hid (fun u hu => rregcheck_any a n c l u hu (by omega))
  have C2 := hid (fun u hu => rregcheck_any a' n' c' m u hu (by omega))
  have HOK := hid (unn_ok (f := fH how) (fH_ff how) l m)
  clear h h'
  cases h1 : rgn l
  · have HU : Hid (unn (fH how) l m = []) := by rw [Hid, unn, if_neg (by rw [h1]; simp)]
    rw [h1] at C1
    go_enter Try.func46, Try.ntmps46
    go_wp2_with fail
    refine (C1.out _ H.out).mono ?_
    rintro e w1 ⟨rfl, hb1⟩
    go_wp2
    go_ret
    rw [HU.out]
    exact ⟨none, 0, rfl, RdC.nil _, hb1⟩
  · rw [h1] at C1
    cases h2 : rgn m
    · have HU : Hid (unn (fH how) l m = []) := by rw [Hid, unn, if_neg (by rw [h2]; simp)]
      rw [h2] at C2
      go_enter Try.func46, Try.ntmps46
      go_wp2_with fail
      refine (C1.out _ H.out).mono ?_
      rintro e w1 ⟨rfl, hb1⟩
      go_wp2_with fail
      refine (C2.out _ (H'.out.on hb1)).mono ?_
      rintro e w2 ⟨rfl, hb2⟩
      go_wp2
      go_ret
      rw [HU.out]
      exact ⟨none, 0, rfl, RdC.nil _, Below.on hb1 hb2⟩
    · have HU : Hid (unn (fH how) l m = mk (fH how) l m) := by rw [Hid, unn, if_pos ⟨h1, h2⟩]
      rw [h2] at C2
      have CC := hid (fun u hu hu' => rmake1_any a a' n c n' c' l m how u hu hu' (rgn_iff.1 h1).ck (rgn_iff.1 h2).ck hn)
      rw [← HU.out] at CC
      go_enter Try.func46, Try.ntmps46
      go_wp2_with fail
      refine (C1.out _ H.out).mono ?_
      rintro e w1 ⟨rfl, hb1⟩
      go_wp2_with fail
      refine (C2.out _ (H'.out.on hb1)).mono ?_
      rintro e w2 ⟨rfl, hb2⟩
      have HB := hid (Below.on hb1 hb2)
      clear hb1 hb2
      go_wp2_with fail
      refine (CC.out _ (H.out.on HB.out) (H'.out.on HB.out)).mono ?_
      rintro e w3 ⟨v3, rfl, h3⟩
      have H3 := hid ((h3.base HB.out).ret HOK.out)
      clear h3
      go_wp2
      go_ret
      exact H3.out

set_option maxRecDepth 100000 in
set_option maxHeartbeats 1000000 in
theorem rofl_any (r : Rc) (ok : r.Ok) (w : World) : Calls Try.prog 47 #[.agg #[.int .i64 r.x, .int .i64 r.y, .int .i64 r.w, .int .i64 r.h]] w (Ret w (ofl r)) := by
  have CB := hid (fun u => rbound_any r ok u)
  have CE := hid (fun u => rempty_any (bnd r) u)
  go_enter Try.func47, Try.ntmps47
  go_wp2_with fail
  refine (CB.out _).mono ?_
  rintro e w1 ⟨rfl, hb1⟩
  obtain ⟨_, hw⟩ := box1 r hb1
  have HX := hid (bx_new w1 (bnd r))
  have HW := hid (Below.on hw (below_new w1 (ob (bnd r))))
  rw [ob] at HW
  clear hb1 hw CB
  cases he : emp (bnd r)
  · rw [he] at CE
    have HU : Hid (ofl r = [bnd r]) := by rw [Hid, ofl, if_neg (by rw [he]; decide)]
    have HK : Hid (Ck (bnd r)) := (bnd_cases r).resolve_left (by rw [he]; decide)
    go_wp2_with fail
    refine (CE.out _).mono ?_
    rintro e w2 ⟨rfl, hb2⟩
    have hX2 : Bx w2 w1.heap.size (bnd r) := HX.out.on hb2
    have HW2 : Hid (Below w.heap.size w w2) := Below.on HW.out hb2
    obtain ⟨d0, d1, d2, d3⟩ := hX2.all
    have HO : Hid (OwC w (w2.alloc (.cells #[.int .i64 (bnd r).x, .int .i64 (bnd r).y, .int .i64 (bnd r).w, .int .i64 (bnd r).h] 36)) (.slice (some ⟨w2.heap.size, 0, none⟩) 1 1) [bnd r]) := ⟨World.ownsRow_lit w2 _ 1 HW2.out.size (by decide) rfl, HW2.out.alloc HW2.out.size _⟩
    clear hX2 hb2 HX HW
    go_wp2
    go_ret
    rw [HU.out]
    exact HO.out.ret (fun x hx => by simp only [List.mem_singleton] at hx; rw [hx]; exact HK.out.ok)
  · rw [he] at CE
    have HU : Hid (ofl r = []) := by rw [Hid, ofl, if_pos he]
    go_wp2_with fail
    refine (CE.out _).mono ?_
    rintro e w2 ⟨rfl, hb2⟩
    have HW2 : Hid (Below w.heap.size w w2) := Below.on HW.out hb2
    clear hb2
    go_wp2
    go_ret
    rw [HU.out]
    exact ⟨none, 0, rfl, RdC.nil _, HW2.out⟩

set_option maxRecDepth 100000 in
set_option maxHeartbeats 1000000 in
theorem rects_any (a : Option Addr) (n c : Nat) (l : List Rc) (w : World) (h : RdC w a n c l) (hn : n ≤ 1000000) : Calls Try.prog 13 #[.slice a n c] w (Ret w l) := by
  obtain ⟨i0, hi, hz0, hz1, hz2⟩ := info3 infoC
  have HSR := hid (h.src (P := Try.prog) (t := 30) Try.underlying30)
  have HL := hid h.len
  have HOK := hid h.ok
  have HFIN : Hid (∀ v' w', w'.ownsRow w.heap.size 36 4 v' (0 + n) ([] ++ rccs l) → w.grownBy w' (Value.slice none 0 0).ownBlock → Ret w l (.returned v') w') := fun v' w' o g => by
    rw [Nat.zero_add, List.nil_append, ← HL.out] at o
    exact OwC.ret ⟨o, (Below.refl _ _).grown g (Nat.le_refl _) (fun k hk => by cases hk)⟩ HOK.out
  clear h
  go_enter Try.func13, Try.ntmps13
  go_wp2_with (at_builtin; refine wpList_append_own_src _ rfl (.const (.slice none 0 0)) (.tmp 3) 30 30 rfl w.heap.size 36 i0 (.agg #[.int .i64 0, .int .i64 0, .int .i64 0, .int .i64 0]) 4 32 Try.underlying30 hi hz0 hz1 hz2 rfl (.slice none 0 0) 0 [] rfl (World.ownsRow_nil _ _ _ _) _ _ _ rfl HSR.out (by simp only [maxLen]; omega) (fits32 (by omega)) (Nat.le_refl _) ?_; intro v9 w9 o9 g9; have H9 := hid (HFIN.out _ _ o9 g9); clear o9 g9 HFIN HSR)
  go_wp2
  go_ret
  exact H9.out
end Go.Proofs.Ytlkodgmnhphfcaa

/- few, made, awake. -/
namespace Go.Proofs.Ytlkodgmnhphfcaa
open Go Go.RowKit

/-- A list by its places. -/
def gl (l : List Rc) (j : Nat) : Rc := (l[j]?).getD rz



theorem ex_union : unn or [⟨0, 0, 2, 2⟩] [⟨2, 0, 2, 2⟩] = [⟨0, 0, 4, 2⟩] := by
  have k1 : Ck ⟨0, 0, 2, 2⟩ := ⟨by decide, by decide, by decide, by decide, by decide, by decide⟩
  have k2 : Ck ⟨2, 0, 2, 2⟩ := ⟨by decide, by decide, by decide, by decide, by decide, by decide⟩
  have k3 : Ck ⟨0, 0, 4, 2⟩ := ⟨by decide, by decide, by decide, by decide, by decide, by decide⟩
  rw [unn_reg (reg_one k1) (reg_one k2)]
  obtain ⟨h1, h2, _⟩ := mk_all (f := or) rfl (reg_one k1).ck (reg_one k2).ck
  refine reg_eq h1 (reg_one k3) fun x y => ?_
  rw [h2, Bool.eq_iff_iff, Bool.or_eq_true, pt_iff, pt_iff, pt_iff]
  simp only [List.mem_singleton, exists_eq_left, has_iff]
  omega
theorem ex_rgn : rgn [⟨0, 0, 4, 2⟩] = true := rgn_iff.2 (reg_one ⟨by decide, by decide, by decide, by decide, by decide, by decide⟩)

end Go.Proofs.Ytlkodgmnhphfcaa

/- The contracts of the program's few, added, Flat, Add, Clip, Move. -/
namespace Go.Proofs.Ytlkodgmnhphfcaa
open Go Go.RowKit

/-- More of them, one by one. -/
def dfm (l m : List Rc) : List Rc := m.foldl dput l
theorem dfm_snoc {l m : List Rc} {j : Nat} {r : Rc} (h : m[j]? = some r) : dfm l (m.take (j + 1)) = dput (dfm l (m.take j)) r := by
  rw [List.take_add_one, h]
  simp [dfm]
theorem dfm_all {l : List Rc} (h : Reg l) (h' : l.length ≤ 40) (m : List Rc) : Reg (dfm l m) ∧ (dfm l m).length ≤ 40 := by
  induction m generalizing l with
  | nil => exact ⟨h, h'⟩
  | cons r m ih => exact ih (dput_reg h r) (dput_len l r)

set_option maxRecDepth 100000 in
set_option maxHeartbeats 1000000 in
theorem dfew_any (a : Option Addr) (n c : Nat) (l : List Rc) (w : World) (h : RdC w a n c l) (hr : Reg l) :
    Calls Try.prog 43 #[.slice a n c] w (Ret w (if 40 < l.length then [cvl l] else l)) := by
  obtain rfl := h.len
  have hs := h.small
  have H := hid h
  clear h
  by_cases hg : 40 < l.length
  · have e1 : decide (40 < (l.length : Int)) = true := decide_eq_true (by omega)
    have k := cvl_full hr.ck (fun e => by rw [e] at hg; exact absurd hg (by decide))
    have C1 := hid (fun u hu => rcoverall_any a l.length c l u hu)
    have C2 := hid (fun u => of_any (cvl l) k.ok u)
    rw [if_pos (rgn_iff.2 hr)] at C1
    rw [ofl_ck k] at C2
    rw [if_pos hg]
    generalize cvl l = A0 at C1 C2 ⊢
    go_enter Try.func43, Try.ntmps43
    go_wp2_with fail
    refine (C1.out _ H.out).mono ?_
    rintro e w1 ⟨r, rfl, rfl, hb1⟩
    have HB1 := hid hb1
    clear hb1
    go_wp2_with fail
    refine (C2.out _).mono ?_
    rintro e w2 ⟨a2, c2, rfl, h2, hb2⟩
    have H2 := hid h2
    have HB2 := hid (Below.on HB1.out hb2)
    clear h2 hb2
    go_wp2
    go_ret
    exact ⟨_, _, rfl, H2.out, HB2.out⟩
  · have e1 : decide (40 < (l.length : Int)) = false := decide_eq_false (by omega)
    rw [if_neg hg]
    go_enter Try.func43, Try.ntmps43
    go_wp2
    go_ret
    exact ⟨_, _, rfl, H.out, Below.refl _ _⟩

set_option maxRecDepth 100000 in
set_option maxHeartbeats 1000000 in
theorem dadded_any (a a' : Option Addr) (n c n' c' : Nat) (l m : List Rc) (w : World) (h : RdC w a n c l) (h' : RdC w a' n' c' m) (hr : Reg l) (hn : n ≤ 40) :
    Calls Try.prog 28 #[.slice a n c, .slice a' n' c'] w (Ret w (dfm l m)) := by
  obtain rfl := h.len
  have HL := hid h'.len
  have hs := h'.small
  have H := hid h
  have H' := hid h'
  have HA := hid (fun j => dfm_all hr hn (m.take j))
  clear h h' hr hn
  go_enter Try.func28, Try.ntmps28
  go_wp2
  go_loopw [0, 9] (fun s0 s9 wr => ∃ (j : Nat) (b : Option Addr) (d : Nat), s9 = .int .i64 j ∧ s0 = .slice b (dfm l (m.take j)).length d ∧ j ≤ n' ∧ RdC wr b (dfm l (m.take j)).length d (dfm l (m.take j)) ∧ RowKit.Below w.heap.size w wr) (fun _ s9 _ => n' - (numOf s9).toNat)
  case atStart => exact ⟨0, _, _, rfl, rfl, by omega, H.out, Below.refl _ _⟩
  case round =>
    obtain ⟨j, b, d, rfl, rfl, hj, h3, hb⟩ := hrel
    have H3 := hid h3
    have HB := hid hb
    clear h3 hb H
    by_cases hgo : j < n'
    · have e1 : decide ((j : Int) < n') = true := decide_eq_true (by omega)
      obtain ⟨b2, off, r, rfl, _, hr, ok, he⟩ := (H'.out.on HB.out).el hgo
      obtain ⟨_, c0, c1, c2, c3⟩ := he
      obtain ⟨hreg, hlen⟩ := HA.out j
      have HS := hid (dfm_snoc (l := l) hr)
      generalize dfm l (m.take j) = A0 at hreg hlen HS H3 ⊢
      have hlo := ofl_length r
      have CO := hid (fun u => of_any r ok u)
      have CU := hid (fun u a2 c2 (h1 : RdC u b A0.length d A0) (h2 : RdC u a2 (ofl r).length c2 (ofl r)) => union_any b a2 A0.length d (ofl r).length c2 A0 (ofl r) u h1 h2 (by omega))
      rw [unn_reg hreg (ofl_reg r)] at CU
      have CW := hid (fun u a2 c2 (h1 : RdC u a2 (mk or A0 (ofl r)).length c2 (mk or A0 (ofl r))) => dfew_any a2 _ c2 _ u h1 (dor hreg r).1)
      rw [← dput] at CW
      generalize ofl r = O at CO CU CW hlo
      generalize mk or A0 O = U at CU CW
      generalize dput A0 r = D at CW HS
      have HN := hid (below_new wr (ob r))
      rw [ob] at HN
      clear hr ok hreg hlen hlo
      go_wp2_with fail
      refine (CO.out _).mono ?_
      rintro e w1 ⟨a1, c1', rfl, h1, hb1⟩
      have H1 := hid h1
      replace HN := hid (Below.on HN.out hb1)
      clear h1 hb1
      go_wp2_with fail
      refine (CU.out _ _ _ (H3.out.on HN.out) H1.out).mono ?_
      rintro e w2 ⟨a2, c2', rfl, h2, hb2⟩
      have H2 := hid h2
      replace HN := hid (Below.on HN.out hb2)
      clear h2 hb2
      go_wp2_with fail
      refine (CW.out _ _ _ H2.out).mono ?_
      rintro e w3 ⟨a3, c3', rfl, h4, hb3⟩
      have H4 := hid h4
      replace HN := hid (Below.on HN.out hb3)
      clear h4 hb3
      go_wp2
      go_roundw
      case rel => exact ⟨j + 1, _, _, by go_num, by rw [HS.out], by omega, by rw [HS.out]; exact H4.out, Below.on HB.out HN.out⟩
      case measure => simp [numOf]; omega
    · have e1 : decide ((j : Int) < n') = false := decide_eq_false (by omega)
      have HE : Hid (m.take j = m) := List.take_of_length_le (by rw [HL.out]; omega)
      rw [HE.out] at H3 ⊢
      go_wp2
      go_ret
      exact ⟨_, _, rfl, H3.out, HB.out⟩

set_option maxRecDepth 100000 in
set_option maxHeartbeats 1000000 in
theorem dflat_any (a : Option Addr) (n c : Nat) (l : List Rc) (w : World) (h : RdC w a n c l) :
    Calls Try.prog 18 #[.slice a n c] w (Ret w (dfl l)) := by
  have C1 := hid (dadded_any none a 0 0 n c [] l w (RdC.nil w) h reg_nil (by decide))
  clear h
  rw [show dfm [] l = dfl l from rfl] at C1
  generalize dfl l = D at C1 ⊢
  go_enter Try.func18, Try.ntmps18
  go_wp2_with fail
  refine C1.out.mono ?_
  rintro e w1 ⟨a1, c1, rfl, h1, hb1⟩
  have H1 := hid h1
  have HB1 := hid hb1
  clear h1 hb1
  go_wp2
  go_ret
  exact ⟨_, _, rfl, H1.out, HB1.out⟩


end Go.Proofs.Ytlkodgmnhphfcaa

/- Regions within a grid: what comes of two; the contracts at regions. -/
namespace Go.Proofs.Ytlkodgmnhphfcaa
open Go Go.RowKit

theorem md_gd (g : Nat → Rc) {i : Nat} (hi : i ≤ 7) : Gd 14 (md g i) := by
  obtain ⟨X, Y, h, hx, hy, _, _⟩ := md_grid g i
  exact ⟨md_reg g i, X, Y, h, by omega, by omega⟩

theorem check_reg {a : Option Addr} {n c : Nat} {l : List Rc} {w : World} (h : RdC w a n c l) (hl : Reg l) : Calls Try.prog 55 #[.slice a n c] w fun e w' => e = .returned (.bool true) ∧ Below w.heap.size w w' := by
  have := regcheck_any a n c l w h
  rw [rgn_iff.2 hl] at this
  exact this
theorem same_reg {a a' : Option Addr} {n c n' c' : Nat} {l m : List Rc} {w : World} (h : RdC w a n c l) (h' : RdC w a' n' c' m) (he : l = m) : Calls Try.prog 8 #[.slice a n c, .slice a' n' c'] w fun e w' => e = .returned (.bool true) ∧ Below w.heap.size w w' := by
  have := samerects_any a a' n c n' c' l m w h h'
  rw [he, eqr_same] at this
  refine this.mono ?_
  rintro e w' ⟨rfl, q, rfl⟩
  exact ⟨rfl, below_drewN (Below.refl _ _) q⟩

/-- How many points, by points. -/
theorem area_two {a b c d : List Rc} (ha : Reg a) (hb : Reg b) (hc : Reg c) (hd : Reg d) (h : ∀ x y, one (pt a x y) + one (pt b x y) = one (pt c x y) + one (pt d x y)) : area a + area b = area c + area d := by
  rw [area_cnt rfl ha.bands, area_cnt rfl hb.bands, area_cnt rfl hc.bands, area_cnt rfl hd.bands]
  exact cnt_two h
theorem area_nil : area [] = 0 := rfl
end Go.Proofs.Ytlkodgmnhphfcaa

/- The document's Area, Cover, Shift. -/
namespace Go.Proofs.Ytlkodgmnhphfcaa
open Go Go.RowKit

theorem rgn_nil : rgn [] = true := rgn_iff.2 reg_nil


set_option maxRecDepth 100000 in
set_option maxHeartbeats 1000000 in
theorem rcovers_any (a : Option Addr) (n c : Nat) (l : List Rc) (w : World) (h : RdC w a n c l) (hn : n ≤ 4096) :
    Calls Try.prog 48 #[.slice a n c] w fun e w' => ∃ r, r = (if rgn l = true then cvl l else rz) ∧ e = .returned (.agg #[.int .i64 r.x, .int .i64 r.y, .int .i64 r.w, .int .i64 r.h]) ∧ Below w.heap.size w w' := by
  have H := hid h
  have HL := hid h.len
  have hs := h.small
  have CK := hid (fun u hu => rregcheck_any a n c l u hu hn)
  have HT : Hid (Tw w ((w.alloc (ob rz)).alloc (ob rz)) rz rz) := by
    obtain ⟨h1, h2, h3⟩ := box2 rz rz (Below.refl ((w.alloc (ob rz)).alloc (ob rz)).heap.size ((w.alloc (ob rz)).alloc (ob rz)))
    exact ⟨h1, h2, h3⟩
  clear h
  cases hr0 : rgn l
  · rw [hr0] at CK
    have hn0 : 0 < n := by
      rcases Nat.eq_zero_or_pos n with h0 | h0
      · have : l = [] := List.eq_nil_of_length_eq_zero (by rw [HL.out]; exact h0)
        rw [this, rgn_nil] at hr0
        cases hr0
      · exact h0
    go_enter Try.func48, Try.ntmps48
    go_wp2
    go_loopw [4] (fun s4 wr => s4 = .int .i64 0 ∧ Tw w wr rz rz) (fun _ _ => 0)
    case atStart => exact ⟨rfl, HT.out⟩
    case round =>
      obtain ⟨rfl, hT⟩ := hrel
      have HT2 := hid hT
      clear hT HT
      have e1 : decide (0 < (n : Int)) = true := decide_eq_true (by omega)
      have e2 : decide (0 < n) = true := decide_eq_true hn0
      go_wp2_with fail
      refine (CK.out _ (H.out.on HT2.out.bel)).mono ?_
      rintro e w2 ⟨rfl, hb2⟩
      have hT3 := HT2.out.on hb2
      obtain ⟨c0, c1, c2, c3⟩ := hT3.snd.all
      obtain ⟨d0, d1, d2, d3⟩ := hT3.fst.all
      have fz := hT3.fst.fz
      have HT3 := hid hT3
      clear hT3 hb2
      go_wp2
      refine bodyPost_ret (results_cell_row rfl _ _ w.heap.size _ _ _ _ rfl (HT3.out.fst.st rz).obj Try.underlying36 rfl infoR) rfl ?_
      exact ⟨rfl, below_st HT3.out.bel (Nat.le_refl _) rz⟩
  · rw [hr0] at CK
    have KC := hid (rgn_iff.1 hr0).ck
    go_enter Try.func48, Try.ntmps48
    go_wp2
    go_loopw [4] (fun s4 wr => ∃ j : Nat, s4 = .int .i64 j ∧ j ≤ n ∧ Tw w wr rz (cvl (l.take j))) (fun s4 _ => n - (numOf s4).toNat)
    case atStart => exact ⟨0, rfl, by omega, HT.out⟩
    case round =>
      obtain ⟨j, rfl, hj, hT⟩ := hrel
      have HT2 := hid hT
      clear hT HT
      by_cases hgo : j < n
      · have e1 : decide ((j : Int) < n) = true := decide_eq_true (by omega)
        have e2 : (j : Int) < n := by omega
        obtain ⟨r, hr⟩ : ∃ r, l[j]? = some r := ⟨_, List.getElem?_eq_getElem (by rw [HL.out]; exact hgo)⟩
        have k := KC.out r (List.mem_of_getElem? hr)
        have hA := cvl_ck (l := l.take j) (fun x hx => KC.out x (List.mem_of_mem_take hx))
        have HS := hid (cvl_snoc hr)
        generalize cvl (l.take j) = A0 at hA HT2 HS
        have CV := hid (fun u => rcover_any A0 r (may_of hA) (may_of (.inr k)) u)
        have HR := hid hr
        clear hr k hA
        go_wp2_with fail
        refine (CK.out _ (H.out.on HT2.out.bel)).mono ?_
        rintro e w2 ⟨rfl, hb2⟩
        have HT3 := hid (HT2.out.on hb2)
        obtain ⟨b, off, r', hbo, _, hr', _, he⟩ := (H.out.on HT3.out.bel).el hgo
        rw [HR.out] at hr'
        cases hr'
        subst hbo
        obtain ⟨_, c0, c1, c2, c3⟩ := he
        obtain ⟨d0, d1, d2, d3⟩ := HT3.out.snd.all
        clear hb2 HT2
        go_upto_region 5 with fail
        go_region_with (go_at_call 58; refine (CV.out _).mono ?_; rintro e u ⟨rfl, hb⟩; have hT5 := HT3.out.on (Below.on (Below.refl _ _).drew hb); obtain ⟨g0, g1, g2, g3⟩ := hT5.snd.all; have fz := hT5.snd.fz)
        all_goals
          have HT6 := hid (hT5.st2 (cov A0 r))
          go_wp2
          go_roundw
          case rel => exact ⟨j + 1, by go_num, by omega, by rw [HS.out]; exact HT6.out⟩
          case measure => simp [numOf]; omega
      · have e1 : decide ((j : Int) < n) = false := decide_eq_false (by omega)
        have HE : Hid (l.take j = l) := List.take_of_length_le (by rw [HL.out]; omega)
        rw [HE.out] at HT2
        obtain ⟨c0, c1, c2, c3⟩ := HT2.out.snd.all
        obtain ⟨d0, d1, d2, d3⟩ := HT2.out.fst.all
        have fz := HT2.out.fst.fz
        go_wp2
        refine bodyPost_ret (results_cell_row rfl _ _ w.heap.size _ _ _ _ rfl (HT2.out.fst.st (cvl l)).obj Try.underlying36 rfl infoR) rfl ?_
        exact ⟨rfl, below_st HT2.out.bel (Nat.le_refl _) (cvl l)⟩
end Go.Proofs.Ytlkodgmnhphfcaa

/- The document's Shift. -/
namespace Go.Proofs.Ytlkodgmnhphfcaa
open Go Go.RowKit

theorem far_yes {n : Int} (h : n < -16777216 ∨ 16777216 < n) : far n = true := by
  simp [far]
  omega
theorem far_not {n : Int} (h : -16777216 ≤ n ∧ n ≤ 16777216) : far n = false := by
  simp [far]
  omega
theorem shl_snoc {l : List Rc} {j : Nat} {r : Rc} (h : l[j]? = some r) (x y : Int) : shl (l.take (j + 1)) x y = shl (l.take j) x y ++ (if emp (bnd (sh r x y)) = true then [] else [bnd (sh r x y)]) := by
  rw [List.take_add_one, h, shl, shl, Option.toList_some, List.map_append, List.filter_append]
  congr 1
  cases he : emp (bnd (sh r x y)) <;> simp [he]

end Go.Proofs.Ytlkodgmnhphfcaa

/- The contracts of the document's put, Flat, Add, Clip, Move; awake. -/
namespace Go.Proofs.Ytlkodgmnhphfcaa
open Go Go.RowKit

set_option maxRecDepth 100000 in
set_option maxHeartbeats 1000000 in
theorem rput_any (a : Option Addr) (n c : Nat) (l : List Rc) (r : Rc) (ok : r.Ok) (w : World) (h : RdC w a n c l) (hr : Reg l) (hn : n ≤ 40) :
    Calls Try.prog 29 #[.slice a n c, .agg #[.int .i64 r.x, .int .i64 r.y, .int .i64 r.w, .int .i64 r.h]] w (Ret w (dput l r)) := by
  obtain rfl := h.len
  have hlo := ofl_length r
  have hU := dor_len hr hn r
  have hd := (dor hr r).1
  have C1 := hid (fun u => rofl_any r ok u)
  have C2 := hid (fun u a2 c2 (h1 : RdC u a l.length c l) (h2 : RdC u a2 (ofl r).length c2 (ofl r)) => rmake_any a a2 l.length c (ofl r).length c2 l (ofl r) 0 u h1 h2 (by omega))
  rw [fH0, unn_reg hr (ofl_reg r)] at C2
  have C3 := hid (fun u a2 c2 (h1 : RdC u a2 (mk or l (ofl r)).length c2 (mk or l (ofl r))) => rcovers_any a2 _ c2 _ u h1 (by omega))
  rw [if_pos (rgn_iff.2 hd)] at C3
  have HK : Hid (40 < (mk or l (ofl r)).length → (cvl (mk or l (ofl r))).Ok) := fun h => (cvl_full hd.ck (mk_ne h)).ok
  rw [dput]
  generalize mk or l (ofl r) = U at C2 C3 HK hU ⊢
  generalize ofl r = O at C1 C2
  generalize cvl U = V at C3 HK ⊢
  obtain ⟨D, hD⟩ : ∃ D, D = if 40 < U.length then [V] else U := ⟨_, rfl⟩
  have HD1 : Hid (40 < U.length → D = [V]) := fun h => by rw [hD, if_pos h]
  have HD2 : Hid (¬ 40 < U.length → D = U) := fun h => by rw [hD, if_neg h]
  rw [← hD]
  clear hD
  have H0 := hid (h.on (below_new w (ob r)))
  obtain ⟨c0, c1, c2, c3⟩ := (bx_new w r).all
  have HB := hid (below_new w (ob r))
  rw [ob] at H0 HB
  clear h ok hr hn hlo hd
  go_enter Try.func29, Try.ntmps29
  go_wp2_with fail
  refine (C1.out _).mono ?_
  rintro e w1 ⟨a1, c1', rfl, h1, hb1⟩
  have H1 := hid h1
  replace H0 := hid (H0.out.on hb1)
  replace HB := hid (Below.on HB.out hb1)
  clear h1 hb1 c0 c1 c2 c3
  go_wp2_with fail
  refine (C2.out _ _ _ H0.out H1.out).mono ?_
  rintro e w2 ⟨a2, c2', rfl, h2, hb2⟩
  have H2 := hid h2
  replace HB := hid (Below.on HB.out hb2)
  clear h2 hb2
  by_cases hg : 40 < U.length
  · have e1 : decide (40 < (U.length : Int)) = true := decide_eq_true (by omega)
    replace HD1 := hid (HD1.out hg)
    go_wp2_with fail
    refine (C3.out _ _ _ H2.out).mono ?_
    rintro e w3 ⟨r3, rfl, rfl, hb3⟩
    replace HB := hid (Below.on HB.out hb3)
    have HL := hid (rdc_lit w3 r3 (HK.out hg))
    have HB3 := hid (Below.on HB.out (below_new w3 (ob r3)))
    rw [ob] at HB3
    clear hb3
    go_wp2
    go_ret
    rw [HD1.out]
    exact ⟨_, _, rfl, HL.out, HB3.out⟩
  · have e1 : decide (40 < (U.length : Int)) = false := decide_eq_false (by omega)
    replace HD2 := hid (HD2.out hg)
    go_wp2
    go_ret
    rw [HD2.out]
    exact ⟨_, _, rfl, H2.out, HB.out⟩

set_option maxRecDepth 100000 in
set_option maxHeartbeats 1000000 in
theorem rflat_any (a : Option Addr) (n c : Nat) (l : List Rc) (w : World) (h : RdC w a n c l) :
    Calls Try.prog 30 #[.slice a n c] w (Ret w (dfl l)) := by
  have HL := hid h.len
  have hs := h.small
  have H := hid h
  clear h
  go_enter Try.func30, Try.ntmps30
  go_wp2
  go_loopw [3, 4] (fun s3 s4 wr => ∃ (j : Nat) (b : Option Addr) (d : Nat), s4 = .int .i64 j ∧ s3 = .slice b (dfl (l.take j)).length d ∧ j ≤ n ∧ RdC wr b (dfl (l.take j)).length d (dfl (l.take j)) ∧ RowKit.Below w.heap.size w wr) (fun _ s4 _ => n - (numOf s4).toNat)
  case atStart => exact ⟨0, _, _, rfl, rfl, by omega, RdC.nil _, Below.refl _ _⟩
  case round =>
    obtain ⟨j, b, d, rfl, rfl, hj, h3, hb⟩ := hrel
    have H3 := hid h3
    have HB := hid hb
    clear h3 hb
    by_cases hgo : j < n
    · have e1 : decide ((j : Int) < n) = true := decide_eq_true (by omega)
      obtain ⟨b2, off, r, rfl, _, hr, ok, he⟩ := (H.out.on HB.out).el hgo
      obtain ⟨_, c0, c1, c2, c3⟩ := he
      have hreg := dfl_reg (l.take j)
      have hlen := dfl_len (l.take j)
      have HS := hid (dfl_snoc hr)
      generalize dfl (l.take j) = A0 at hreg hlen HS H3 ⊢
      have CP := hid (fun u (h1 : RdC u b A0.length d A0) => rput_any b _ d _ r ok u h1 hreg hlen)
      generalize dput A0 r = D at CP HS
      clear hr ok hreg hlen
      go_wp2_with fail
      refine (CP.out _ H3.out).mono ?_
      rintro e w3 ⟨a3, c3', rfl, h4, hb3⟩
      have H4 := hid h4
      replace HB := hid (Below.on HB.out hb3)
      clear h4 hb3
      go_wp2
      go_roundw
      case rel => exact ⟨j + 1, _, _, by go_num, by rw [HS.out], by omega, by rw [HS.out]; exact H4.out, HB.out⟩
      case measure => simp [numOf]; omega
    · have e1 : decide ((j : Int) < n) = false := decide_eq_false (by omega)
      have HE : Hid (l.take j = l) := List.take_of_length_le (by rw [HL.out]; omega)
      rw [HE.out] at H3 ⊢
      go_wp2
      go_ret
      exact ⟨_, _, rfl, H3.out, HB.out⟩



set_option maxRecDepth 100000 in
set_option maxHeartbeats 1000000 in
theorem raddr_any (a : Option Addr) (n c : Nat) (l : List Rc) (r : Rc) (ok : r.Ok) (w : World) (h : RdC w a n c l) :
    Calls Try.prog 19 #[.slice a n c, .agg #[.int .i64 r.x, .int .i64 r.y, .int .i64 r.w, .int .i64 r.h]] w (Ret w (dput (dfl l) r)) := by
  have C1 := hid (fun u hu => rflat_any a n c l u hu)
  have C3 := hid (fun u a1 c1 (h1 : RdC u a1 (dfl l).length c1 (dfl l)) => rput_any a1 _ c1 _ r ok u h1 (dfl_reg l) (dfl_len l))
  generalize dfl l = D at C1 C3 ⊢
  generalize dput D r = E at C3 ⊢
  have H0 := hid (h.on (below_new w (ob r)))
  have HX : Hid (Bx (w.alloc (ob r)) w.heap.size r) := bx_new w r
  have HB := hid (below_new w (ob r))
  clear h ok
  go_enter Try.func19, Try.ntmps19
  go_upto_region 1 with fail
  rw [← ob]
  generalize w.alloc (ob r) = u0 at H0 HX HB ⊢
  refine wp_region_held_drew (S := fun x => Below u0.heap.size u0 x) (by kernel_rfl) (Below.refl _ _).drew (fun hHeld => ?_)
  have hHeld : Below u0.heap.size u0 u0.drew := hHeld
  refine wpAnyH_take (i := 0) (v := ?_) rfl (by kernel_rfl) (by kernel_rfl) (by kernel_rfl) (fun _ _ _ h => h) (Or.inl ⟨by kernel_rfl, ?hy0⟩) (by assumption) ?_
  case hy0 => (intro w hSw; (try dsimp only at hSw); obtain ⟨t00, t01, t02, t03⟩ := (HX.out.on hSw).all; go_simp; try with_reducible rfl)
  try simp only [Act.put, List.getElem_toArray, List.getElem_cons_zero, List.setIfInBounds_toArray, List.set_cons_zero, List.set_cons_succ]
  refine wpAnyH_take (i := 2) (v := ?_) rfl (by kernel_rfl) (by kernel_rfl) (by kernel_rfl) (fun _ _ _ h => h) (Or.inl ⟨by kernel_rfl, ?hy2⟩) (by assumption) ?_
  case hy2 => (intro w hSw; (try dsimp only at hSw); obtain ⟨t00, t01, t02, t03⟩ := (HX.out.on hSw).all; go_simp; try with_reducible rfl)
  try simp only [Act.put, List.getElem_toArray, List.getElem_cons_zero, List.getElem_cons_succ, List.setIfInBounds_toArray, List.set_cons_zero, List.set_cons_succ]
  refine wpAnyH_ready (rs := [1]) (by kernel_rfl) (by simp) ?_
  refine AllReadyH.cons rfl (fun K hK => ?_) AllReadyH.nil
  go_simp
  go_wp2_with fail
  refine (C1.out _ (H0.out.on hHeld)).mono ?_
  rintro e u1 ⟨a1, c1, rfl, h1, hb1⟩
  have H1 := hid h1
  replace hHeld := Below.on hHeld hb1
  refine hK.out _ _ hHeld (fun _ => ?_)
  clear hK K hb1 h1
  refine wpAnyH_ready (rs := [3]) (by kernel_rfl) (by simp) ?_
  refine AllReadyH.cons rfl (fun K hK => ?_) AllReadyH.nil
  go_simp
  go_wp2_with fail
  refine (C3.out _ _ _ H1.out).mono ?_
  rintro e u3 ⟨a3, c3, rfl, h3, hb3⟩
  have H3 := hid h3
  replace hHeld := Below.on hHeld hb3
  refine hK.out _ _ hHeld (fun _ => ?_)
  clear hK K hb3 h3
  refine wpAnyH_take (i := 4) (v := ?_) rfl (by kernel_rfl) (by kernel_rfl) (by kernel_rfl) (fun _ _ _ h => h) (Or.inl ⟨by kernel_rfl, ?hy4⟩) (by assumption) ?_
  case hy4 => (intro w hSw; (try dsimp only at hSw); obtain ⟨t00, t01, t02, t03⟩ := (HX.out.on hSw).all; go_simp; try with_reducible rfl)
  try simp only [Act.put, List.getElem_toArray, List.getElem_cons_zero, List.getElem_cons_succ, List.setIfInBounds_toArray, List.set_cons_zero, List.set_cons_succ]
  refine wpAnyH_done (by kernel_rfl) ?_ _
  go_wp2
  go_ret
  exact ⟨_, _, rfl, H3.out, Below.on HB.out hHeld⟩
end Go.Proofs.Ytlkodgmnhphfcaa

/- Repaint: the contracts of the document's spot and Changed. Laid by repaint/lay.sh. -/
namespace Go.Proofs.Ytlkodgmnhphfcaa
open Go Go.RowKit

set_option maxRecDepth 100000 in
set_option maxHeartbeats 4000000 in
theorem qrspot_any (z0 z1 z2 z3 z4 z5 : Int) (r : Rc) (ok : r.Ok) (w : World) :
    Calls Try.prog 20 #[.agg #[.int .i64 z0, .int .i64 z1, .int .i64 z2, .int .i64 z3, .int .i64 z4, .int .i64 z5], .agg #[.int .i64 r.x, .int .i64 r.y, .int .i64 r.w, .int .i64 r.h]] w fun e w' => e = .returned (.agg #[.int .i64 (spt [z0, z1, z2, z3, z4, z5] r).x, .int .i64 (spt [z0, z1, z2, z3, z4, z5] r).y, .int .i64 (spt [z0, z1, z2, z3, z4, z5] r).w, .int .i64 (spt [z0, z1, z2, z3, z4, z5] r).h]) ∧ Below w.heap.size w w' := by
  have hA := bel_new w (.cells #[.int .i64 z0, .int .i64 z1, .int .i64 z2, .int .i64 z3, .int .i64 z4, .int .i64 z5] 40)
  have hV := bk_new w #[.int .i64 z0, .int .i64 z1, .int .i64 z2, .int .i64 z3, .int .i64 z4, .int .i64 z5] 40
  have CB := hid (fun u => rbound_any r ok u)
  have CK := hid (fun u => rcheck_any ⟨z2, z3, z4, z5⟩ u)
  have CE := hid (fun u => rempty_any (bnd r) u)
  cases hk : dck ⟨z2, z3, z4, z5⟩ with
  | false =>
    rw [hk] at CK
    rw [show spt [z0, z1, z2, z3, z4, z5] r = rz from spt_no (.inl hk)]
    generalize bnd r = B at CB
    clear hk CE ok
    go_enter Try.func20, Try.ntmps20
    go_wp2_with fail
    refine (CB.out _).mono ?_
    rintro e w1 ⟨rfl, hb1⟩
    obtain ⟨hr1, hz1, hbb⟩ := box2 r rz hb1
    have hV1 := hV.on hbb
    have hX := bx_new w1 B
    have hl0 : w.heap.size < w1.heap.size := hV1.lt
    rw [size_new] at hr1 hz1
    have HV2 := hid (hV1.on (below_new w1 (ob B)))
    have HZ2 := hid (hz1.on (below_new w1 (ob B)))
    have HB2 := hid (Below.on (Below.on hA hbb) (below_new w1 (ob B)))
    clear hb1 hr1 hz1 hbb hV1 hV hA CB
    rw [ob] at HV2 HZ2 HB2
    have v0 := HV2.out.cell 0
    have v1 := HV2.out.cell 1
    have v2 := HV2.out.cell 2
    have v3 := HV2.out.cell 3
    have v4 := HV2.out.cell 4
    have v5 := HV2.out.cell 5
    go_wp2_with fail
    refine (qrrect_any z0 z1 z2 z3 z4 z5 _).mono ?_
    rintro e w2 ⟨rfl, hb2⟩
    have HZ3 := hid (HZ2.out.on hb2)
    have HB3 := hid (Below.on HB2.out hb2)
    clear hb2 HV2 HZ2 HB2 hX v0 v1 v2 v3 v4 v5
    go_wp2_with fail
    refine (CK.out _).mono ?_
    rintro e w3 ⟨rfl, hb3⟩
    have HZ4 := hid (HZ3.out.on hb3)
    have HB4 := hid (Below.on HB3.out hb3)
    clear hb3 HZ3 HB3
    obtain ⟨d0, d1, d2, d3⟩ := HZ4.out.all
    have fz := HZ4.out.fz
    go_wp2
    refine bodyPost_ret (results_cell_row rfl _ _ (w.heap.size + 1 + 1) _ _ _ _ rfl (HZ4.out.st rz).obj Try.underlying36 rfl infoR) rfl ?_
    exact ⟨rfl, below_st HB4.out (by omega) rz⟩
  | true =>
    rw [hk] at CK
    have k : Ck (vrc [z0, z1, z2, z3, z4, z5]) := dck_iff.1 hk
    cases hb : emp (bnd r) with
    | true =>
      rw [hb] at CE
      rw [show spt [z0, z1, z2, z3, z4, z5] r = rz from spt_no (.inr hb)]
      generalize bnd r = B at CB CE
      clear hk hb k ok
      go_enter Try.func20, Try.ntmps20
      go_wp2_with fail
      refine (CB.out _).mono ?_
      rintro e w1 ⟨rfl, hb1⟩
      obtain ⟨hr1, hz1, hbb⟩ := box2 r rz hb1
      have hV1 := hV.on hbb
      have hX := bx_new w1 B
      have hl0 : w.heap.size < w1.heap.size := hV1.lt
      rw [size_new] at hr1 hz1
      have HV2 := hid (hV1.on (below_new w1 (ob B)))
      have HZ2 := hid (hz1.on (below_new w1 (ob B)))
      have HB2 := hid (Below.on (Below.on hA hbb) (below_new w1 (ob B)))
      have HX2 := hid hX
      clear hb1 hr1 hz1 hbb hV1 hV hA CB hX
      rw [ob] at HV2 HZ2 HB2
      have v0 := HV2.out.cell 0
      have v1 := HV2.out.cell 1
      have v2 := HV2.out.cell 2
      have v3 := HV2.out.cell 3
      have v4 := HV2.out.cell 4
      have v5 := HV2.out.cell 5
      go_wp2_with fail
      refine (qrrect_any z0 z1 z2 z3 z4 z5 _).mono ?_
      rintro e w2 ⟨rfl, hb2⟩
      have HZ3 := hid (HZ2.out.on hb2)
      have HX3 := hid (HX2.out.on hb2)
      have HB3 := hid (Below.on HB2.out hb2)
      clear hb2 HV2 HZ2 HB2 HX2 v0 v1 v2 v3 v4 v5
      go_wp2_with fail
      refine (CK.out _).mono ?_
      rintro e w3 ⟨rfl, hb3⟩
      have HZ4 := hid (HZ3.out.on hb3)
      have HX4 := hid (HX3.out.on hb3)
      have HB4 := hid (Below.on HB3.out hb3)
      clear hb3 HZ3 HB3 HX3
      obtain ⟨c0, c1, c2, c3⟩ := HX4.out.all
      go_wp2_with fail
      refine (CE.out _).mono ?_
      rintro e w4 ⟨rfl, hb4⟩
      have HZ5 := hid (HZ4.out.on hb4)
      have HB5 := hid (Below.on HB4.out hb4)
      clear hb4 HZ4 HB4 HX4 c0 c1 c2 c3
      obtain ⟨d0, d1, d2, d3⟩ := HZ5.out.all
      have fz := HZ5.out.fz
      go_wp2
      refine bodyPost_ret (results_cell_row rfl _ _ (w.heap.size + 1 + 1) _ _ _ _ rfl (HZ5.out.st rz).obj Try.underlying36 rfl infoR) rfl ?_
      exact ⟨rfl, below_st HB5.out (by omega) rz⟩
    | false =>
      rw [hb] at CE
      rw [spt_full k hb]
      have kb : Ck (bnd r) := by
        rcases bnd_cases r with h | h
        · rw [hb] at h; cases h
        · exact h
      rw [show nm5 2 [z0, z1, z2, z3, z4, z5] = z2 from rfl, show nm5 3 [z0, z1, z2, z3, z4, z5] = z3 from rfl]
      rw [show vrc [z0, z1, z2, z3, z4, z5] = ⟨z2, z3, z4, z5⟩ from rfl] at k ⊢
      generalize bnd r = B at CB CE hb kb ⊢
      have CS := hid (fun u => rshift_any B z2 z3 (fun _ => by
        obtain ⟨k1, k2, k3, k4, k5, k6⟩ := k
        obtain ⟨l1, l2, l3, l4, l5, l6⟩ := kb
        dsimp only at k1 k2 k3 k4 k5 k6
        omega) (fun _ => by
        obtain ⟨k1, k2, k3, k4, k5, k6⟩ := k
        obtain ⟨l1, l2, l3, l4, l5, l6⟩ := kb
        dsimp only at k1 k2 k3 k4 k5 k6
        omega) u)
      have hcw : emp (sh B z2 z3) = false → Cw (sh B z2 z3) := fun _ => by
        rw [sh_full hb]
        obtain ⟨k1, k2, k3, k4, k5, k6⟩ := k
        obtain ⟨l1, l2, l3, l4, l5, l6⟩ := kb
        dsimp only at k1 k2 k3 k4 k5 k6
        exact ⟨by dsimp only; omega, by dsimp only; omega, by dsimp only; omega, by dsimp only; omega, by dsimp only; omega, by dsimp only; omega⟩
      have CC := hid (fun u => rcutw_any (sh B z2 z3) ⟨z2, z3, z4, z5⟩ hcw (fun _ => k.cw) u)
      generalize sh B z2 z3 = Q at CS CC ⊢
      generalize cut Q ⟨z2, z3, z4, z5⟩ = R at CC ⊢
      clear hk hb k kb hcw ok
      go_enter Try.func20, Try.ntmps20
      go_wp2_with fail
      refine (CB.out _).mono ?_
      rintro e w1 ⟨rfl, hb1⟩
      obtain ⟨hr1, hz1, hbb⟩ := box2 r rz hb1
      have hV1 := hV.on hbb
      have hX := bx_new w1 B
      have hl0 : w.heap.size < w1.heap.size := hV1.lt
      have hl1 : w.heap.size + 1 + 1 < w1.heap.size := by have := hz1.lt; rw [size_new] at this; exact this
      rw [size_new] at hr1 hz1
      have HV2 := hid (hV1.on (below_new w1 (ob B)))
      have HZ2 := hid (hz1.on (below_new w1 (ob B)))
      have HB2 := hid (Below.on (Below.on hA hbb) (below_new w1 (ob B)))
      have HX2 := hid hX
      clear hb1 hr1 hz1 hbb hV1 hV hA CB hX
      rw [ob] at HV2 HZ2 HB2
      have v0 := HV2.out.cell 0
      have v1 := HV2.out.cell 1
      have v2 := HV2.out.cell 2
      have v3 := HV2.out.cell 3
      have v4 := HV2.out.cell 4
      have v5 := HV2.out.cell 5
      go_wp2_with fail
      refine (qrrect_any z0 z1 z2 z3 z4 z5 _).mono ?_
      rintro e w2 ⟨rfl, hb2⟩
      have HV3 := hid (HV2.out.on hb2)
      have HZ3 := hid (HZ2.out.on hb2)
      have HX3 := hid (HX2.out.on hb2)
      have HB3 := hid (Below.on HB2.out hb2)
      clear hb2 HV2 HZ2 HB2 HX2 v0 v1 v2 v3 v4 v5
      go_wp2_with fail
      refine (CK.out _).mono ?_
      rintro e w3 ⟨rfl, hb3⟩
      have HV4 := hid (HV3.out.on hb3)
      have HZ4 := hid (HZ3.out.on hb3)
      have HX4 := hid (HX3.out.on hb3)
      have HB4 := hid (Below.on HB3.out hb3)
      clear hb3 HV3 HZ3 HB3 HX3
      obtain ⟨c0, c1, c2, c3⟩ := HX4.out.all
      go_wp2_with fail
      refine (CE.out _).mono ?_
      rintro e U ⟨rfl, hb4⟩
      have HV5 := hid (HV4.out.on hb4)
      have HZ5 := hid (HZ4.out.on hb4)
      have HX5 := hid (HX4.out.on hb4)
      have HB5 := hid (Below.on HB4.out hb4)
      clear hb4 HV4 HZ4 HB4 HX4 c0 c1 c2 c3
      go_upto_region 4 with fail
      refine wp_region_held_drew (S := fun x => Bk x w.heap.size 40 #[.int .i64 z0, .int .i64 z1, .int .i64 z2, .int .i64 z3, .int .i64 z4, .int .i64 z5] ∧ Bx x w1.heap.size B) (by kernel_rfl) ?hh (fun hHeld => ?_)
      case hh => exact (⟨HV5.out.on (Below.refl _ _).drew, HX5.out.drew⟩)
      refine wpAnyH_take (i := 0) (v := ?_) rfl (by kernel_rfl) (by kernel_rfl) (by kernel_rfl) (fun _ _ _ h => h) (Or.inl ⟨by kernel_rfl, ?hy0⟩) (by assumption) ?_
      case hy0 => (intro w hSw; (try dsimp only at hSw); have t0 := hSw.1.cell 0; have t1 := hSw.1.cell 1; have t2 := hSw.1.cell 2; have t3 := hSw.1.cell 3; have t4 := hSw.1.cell 4; have t5 := hSw.1.cell 5; obtain ⟨s0, s1, s2, s3⟩ := hSw.2.all; go_simp; try with_reducible rfl)
      try simp only [Act.put, List.getElem_toArray, List.getElem_cons_zero, List.setIfInBounds_toArray, List.set_cons_zero, List.set_cons_succ]
      refine wpAnyH_take (i := 1) (v := ?_) rfl (by kernel_rfl) (by kernel_rfl) (by kernel_rfl) (fun _ _ _ h => h) (Or.inl ⟨by kernel_rfl, ?hy1⟩) (by assumption) ?_
      case hy1 => (intro w hSw; (try dsimp only at hSw); have t0 := hSw.1.cell 0; have t1 := hSw.1.cell 1; have t2 := hSw.1.cell 2; have t3 := hSw.1.cell 3; have t4 := hSw.1.cell 4; have t5 := hSw.1.cell 5; obtain ⟨s0, s1, s2, s3⟩ := hSw.2.all; go_simp; try with_reducible rfl)
      try simp only [Act.put, List.getElem_toArray, List.getElem_cons_zero, List.getElem_cons_succ, List.setIfInBounds_toArray, List.set_cons_zero, List.set_cons_succ]
      refine wpAnyH_take (i := 2) (v := ?_) rfl (by kernel_rfl) (by kernel_rfl) (by kernel_rfl) (fun _ _ _ h => h) (Or.inl ⟨by kernel_rfl, ?hy2⟩) (by assumption) ?_
      case hy2 => (intro w hSw; (try dsimp only at hSw); have t0 := hSw.1.cell 0; have t1 := hSw.1.cell 1; have t2 := hSw.1.cell 2; have t3 := hSw.1.cell 3; have t4 := hSw.1.cell 4; have t5 := hSw.1.cell 5; obtain ⟨s0, s1, s2, s3⟩ := hSw.2.all; go_simp; try with_reducible rfl)
      try simp only [Act.put, List.getElem_toArray, List.getElem_cons_zero, List.getElem_cons_succ, List.setIfInBounds_toArray, List.set_cons_zero, List.set_cons_succ]
      refine wpAnyH_take (i := 3) (v := ?_) rfl (by kernel_rfl) (by kernel_rfl) (by kernel_rfl) (fun _ _ _ h => h) (Or.inl ⟨by kernel_rfl, ?hy3⟩) (by assumption) ?_
      case hy3 => (intro w hSw; (try dsimp only at hSw); have t0 := hSw.1.cell 0; have t1 := hSw.1.cell 1; have t2 := hSw.1.cell 2; have t3 := hSw.1.cell 3; have t4 := hSw.1.cell 4; have t5 := hSw.1.cell 5; obtain ⟨s0, s1, s2, s3⟩ := hSw.2.all; go_simp; try with_reducible rfl)
      try simp only [Act.put, List.getElem_toArray, List.getElem_cons_zero, List.getElem_cons_succ, List.setIfInBounds_toArray, List.set_cons_zero, List.set_cons_succ]
      refine wpAnyH_take (i := 4) (v := ?_) rfl (by kernel_rfl) (by kernel_rfl) (by kernel_rfl) (fun _ _ _ h => h) (Or.inl ⟨by kernel_rfl, ?hy4⟩) (by assumption) ?_
      case hy4 => (intro w hSw; (try dsimp only at hSw); have t0 := hSw.1.cell 0; have t1 := hSw.1.cell 1; have t2 := hSw.1.cell 2; have t3 := hSw.1.cell 3; have t4 := hSw.1.cell 4; have t5 := hSw.1.cell 5; obtain ⟨s0, s1, s2, s3⟩ := hSw.2.all; go_simp; try with_reducible rfl)
      try simp only [Act.put, List.getElem_toArray, List.getElem_cons_zero, List.getElem_cons_succ, List.setIfInBounds_toArray, List.set_cons_zero, List.set_cons_succ]
      refine wpAnyH_take (i := 6) (v := ?_) rfl (by kernel_rfl) (by kernel_rfl) (by kernel_rfl) (fun _ _ _ h => h) (Or.inl ⟨by kernel_rfl, ?hy6⟩) (by assumption) ?_
      case hy6 => (intro w hSw; (try dsimp only at hSw); have t0 := hSw.1.cell 0; have t1 := hSw.1.cell 1; have t2 := hSw.1.cell 2; have t3 := hSw.1.cell 3; have t4 := hSw.1.cell 4; have t5 := hSw.1.cell 5; obtain ⟨s0, s1, s2, s3⟩ := hSw.2.all; go_simp; try with_reducible rfl)
      try simp only [Act.put, List.getElem_toArray, List.getElem_cons_zero, List.getElem_cons_succ, List.setIfInBounds_toArray, List.set_cons_zero, List.set_cons_succ]
      refine wpAnyH_ready (rs := [5]) (by kernel_rfl) (by simp) ?_
      refine AllReadyH.cons rfl (fun K hK => ?_) AllReadyH.nil
      go_simp
      go_wp2_with fail
      refine (CS.out _).mono ?_
      rintro e u1 ⟨rfl, hb5⟩
      have HZ6 := hid (HZ5.out.drew.on hb5)
      have HB6 := hid (Below.on HB5.out.drew hb5)
      have hH := (⟨hHeld.1.on hb5, hHeld.2.on hb5⟩ : Bk u1 w.heap.size 40 #[.int .i64 z0, .int .i64 z1, .int .i64 z2, .int .i64 z3, .int .i64 z4, .int .i64 z5] ∧ Bx u1 w1.heap.size B)
      refine hK.out _ _ hH (fun _ => ?_)
      clear hK K hHeld hb5 HZ5 HB5 HV5 HX5
      have hHeld := hH
      clear hH
      refine wpAnyH_ready (rs := [7]) (by kernel_rfl) (by simp) ?_
      refine AllReadyH.cons rfl (fun K hK => ?_) AllReadyH.nil
      go_simp
      go_wp2_with fail
      refine (qrrect_any z0 z1 z2 z3 z4 z5 _).mono ?_
      rintro e u2 ⟨rfl, hb6⟩
      have HZ7 := hid (HZ6.out.on hb6)
      have HB7 := hid (Below.on HB6.out hb6)
      have hH := (⟨hHeld.1.on hb6, hHeld.2.on hb6⟩ : Bk u2 w.heap.size 40 #[.int .i64 z0, .int .i64 z1, .int .i64 z2, .int .i64 z3, .int .i64 z4, .int .i64 z5] ∧ Bx u2 w1.heap.size B)
      refine hK.out _ _ hH (fun _ => ?_)
      clear hK K hHeld hb6 HZ6 HB6
      have hHeld := hH
      clear hH
      refine wpAnyH_ready (rs := [8]) (by kernel_rfl) (by simp) ?_
      refine AllReadyH.cons rfl (fun K hK => ?_) AllReadyH.nil
      go_simp
      go_wp2_with fail
      refine (CC.out _).mono ?_
      rintro e u3 ⟨rfl, hb7⟩
      have HZ8 := hid (HZ7.out.on hb7)
      have HB8 := hid (Below.on HB7.out hb7)
      have hH := (⟨hHeld.1.on hb7, hHeld.2.on hb7⟩ : Bk u3 w.heap.size 40 #[.int .i64 z0, .int .i64 z1, .int .i64 z2, .int .i64 z3, .int .i64 z4, .int .i64 z5] ∧ Bx u3 w1.heap.size B)
      refine hK.out _ _ hH (fun _ => ?_)
      clear hK K hHeld hb7 HZ7 HB7
      have hHeld := hH
      clear hH
      refine wpAnyH_ready (rs := [9]) (by kernel_rfl) (by simp) ?_
      refine AllReadyH.cons rfl (fun K hK => ?_) AllReadyH.nil
      obtain ⟨d0, d1, d2, d3⟩ := HZ8.out.all
      have fz := HZ8.out.fz
      go_simp
      have hk9 : Kp [w.heap.size + 1 + 1] u3 (st4 u3 (w.heap.size + 1 + 1) R) := (((((Kp.refl [w.heap.size + 1 + 1] u3).set ⟨w.heap.size + 1 + 1, 0, none⟩ (by simp) (.int .i64 R.x)).set ⟨w.heap.size + 1 + 1, 1, none⟩ (by simp) (.int .i64 R.y)).set ⟨w.heap.size + 1 + 1, 2, none⟩ (by simp) (.int .i64 R.w)).set ⟨w.heap.size + 1 + 1, 3, none⟩ (by simp) (.int .i64 R.h))
      refine hK.out _ _ (⟨hHeld.1.kp hk9 (by simp only [List.mem_singleton]; omega), ⟨hk9.var hHeld.2.obj (by simp only [List.mem_singleton]; omega)⟩⟩ : Bk (st4 u3 (w.heap.size + 1 + 1) R) w.heap.size 40 #[.int .i64 z0, .int .i64 z1, .int .i64 z2, .int .i64 z3, .int .i64 z4, .int .i64 z5] ∧ Bx (st4 u3 (w.heap.size + 1 + 1) R) w1.heap.size B) (fun _ => ?_)
      clear hK K hHeld hk9
      refine wpAnyH_done (by kernel_rfl) ?_ _
      go_wp2
      refine bodyPost_ret (results_cell_row rfl _ _ (w.heap.size + 1 + 1) _ _ _ _ rfl (HZ8.out.st R).obj Try.underlying36 rfl infoR) rfl ?_
      exact ⟨rfl, below_st HB8.out (by omega) R⟩
end Go.Proofs.Ytlkodgmnhphfcaa

/- Repaint: what the program puts together is, added, what the document adds; a damage cut ahead of being moved. Nothing of the program. -/
namespace Go.Proofs.Ytlkodgmnhphfcaa
open Go Go.RowKit

/-- What the program has at one place. -/
def qhp (o v : Option (List Int)) (D : List (Int × List Rc)) : List Rc := match o, v with
  | some a, some b => if a = b then (if dck (vrc b) = true then D.flatMap fun d => if d.1 = nm5 0 b then d.2.map (spt b) else [] else []) else [vrc a, vrc b]
  | some a, none => [vrc a]
  | none, some b => [vrc b]
  | none, none => []
def qhN (o v : List (List Int)) (D : List (Int × List Rc)) (k : Nat) : List Rc := (List.range k).flatMap fun i => qhp o[i]? v[i]? D
theorem qhN_zero (o v : List (List Int)) (D : List (Int × List Rc)) : qhN o v D 0 = [] := rfl
theorem qhN_succ (o v : List (List Int)) (D : List (Int × List Rc)) (k : Nat) : qhN o v D (k + 1) = qhN o v D k ++ qhp o[k]? v[k]? D := by
  rw [qhN, List.range_succ, List.flatMap_append, List.flatMap_singleton]
  rfl
theorem dfl_app (l m : List Rc) : dfl (l ++ m) = m.foldl dput (dfl l) := by rw [dfl, List.foldl_append]; rfl
theorem qhp_chp (o v : Option (List Int)) (D : List (Int × List Rc)) : qhp o v D = chp o v D ∨ (qhp o v D = [] ∧ ∀ r ∈ chp o v D, r = rz) := by
  cases o with
  | none => cases v <;> exact .inl rfl
  | some a =>
    cases v with
    | none => exact .inl rfl
    | some b =>
      rw [qhp, chp]
      by_cases e : a = b
      · rw [if_pos e, if_pos e]
        cases h : dck (vrc b) with
        | true => exact .inl rfl
        | false =>
          refine .inr ⟨rfl, fun r hr => ?_⟩
          obtain ⟨d, _, hr⟩ := List.mem_flatMap.1 hr
          split at hr
          · obtain ⟨x, _, rfl⟩ := List.mem_map.1 hr
            exact spt_no (.inl h)
          · cases hr
      · rw [if_neg e, if_neg e]
        exact .inl rfl
theorem qhN_dfl (o v : List (List Int)) (D : List (Int × List Rc)) (k : Nat) : dfl (qhN o v D k) = dfl (chN o v D k) := by
  induction k with
  | zero => rfl
  | succ k ih =>
    rw [qhN_succ, chN_succ, dfl_app, ih, ← dfl_app]
    rcases qhp_chp o[k]? v[k]? D with h | ⟨h, h'⟩
    · rw [h]
    · rw [h, List.append_nil, dfl_app_rz _ _ h']

/-- Cut ahead of being moved, it is the same. -/
theorem sh_spt {y : List Int} (k : Ck (vrc y)) (r : Rc) : sh (cut (bnd r) (bnd ⟨0, 0, nm5 4 y, nm5 5 y⟩)) (nm5 2 y) (nm5 3 y) = spt y r := by
  cases hb : emp (bnd r) with
  | true => rw [cut_emp1 hb, sh_emp rfl, spt_no (.inr hb)]
  | false =>
    have kb : Ck (bnd r) := by
      rcases bnd_cases r with h | h
      · rw [hb] at h; cases h
      · exact h
    rw [spt_cut k hb]
    obtain ⟨k1, k2, k3, k4, k5, k6⟩ := k
    simp only [vrc] at k1 k2 k3 k4 k5 k6
    have hw : emp ⟨0, 0, nm5 4 y, nm5 5 y⟩ = false := by
      simp only [emp, Bool.or_eq_false_iff, decide_eq_false_iff_not]
      omega
    have e : bnd ⟨0, 0, nm5 4 y, nm5 5 y⟩ = ⟨0, 0, min (nm5 4 y) 16777216, min (nm5 5 y) 16777216⟩ := by
      rw [bnd_full hw]
      dsimp only
      rw [oft_full (by rw [ed]; split <;> omega) (by rw [ed]; split <;> omega)]
      congr 1
      · rw [ed]; split <;> omega
      · rw [ed]; split <;> omega
    rw [e]
    generalize bnd r = q at *
    obtain ⟨l1, l2, l3, l4, l5, l6⟩ := kb
    have he : emp ⟨0, 0, min (nm5 4 y) 16777216, min (nm5 5 y) 16777216⟩ = false := by
      simp only [emp, Bool.or_eq_false_iff, decide_eq_false_iff_not]
      omega
    rw [cut_full hb he]
    dsimp only
    rw [en, if_pos (by omega), en, if_pos (by omega), en, if_pos (by omega), en, if_pos (by omega)]
    unfold oft
    split
    · rw [sh_emp rfl, if_pos (by omega)]
    · rw [sh_full (by simp only [emp, Bool.or_eq_false_iff, decide_eq_false_iff_not]; omega), if_neg (by omega)]
      dsimp only
      congr 1 <;> omega
end Go.Proofs.Ytlkodgmnhphfcaa

/- Append onto a slice without room, which is nobody's own (structs of m numbers): over any program. -/
namespace Go.Proofs.Ytlkodgmnhphfcaa
open Go Go.RowKit

section
variable {P : Program} (w : World)
theorem run_append_full (m t tx ty e e' : TypeId) (i : TypeInfo) (z : Value) (bytes : Nat) (ht : P.underlying t = some (.slice e)) (htx : P.underlying tx = some (.slice e')) (hi : P.info? e = some i) (hz : i.zero = some z)
    (hsize : i.size = m) (hby : i.bytes = bytes) (hzs : z.cells.size = m)
    (va : Option Addr) (n : Nat) (l : List (List Int)) (hr : RdM m w va n n l) (vx : Option Addr) (n' c' : Nat) (l' : List (List Int)) (hr' : RdM m w vx n' c' l') (hpos : 0 < n + n')
    (h63 : n + n' ≤ maxLen) (hbytes : ∀ old, old < n + n' → Builtin.nextslicecap (n + n') old * bytes ≤ 281474976710656) :
    ∃ a'' c'' w', (Builtin.append_ #[t, tx] ty #[.slice va n n, .slice vx n' c']).run P w = .ok (.slice a'' (n + n') c'') w' ∧ RdM m w' a'' (n + n') c'' (l ++ l') ∧ Below w.heap.size w w' := by
  subst hsize
  subst hby
  have hs := hr'.src (P := P) htx
  have ho := hr.src (P := P) ht
  have hl := hr.len
  have hl' := hr'.len
  have hsmall : n + n' ≤ 9223372036854775807 := by simp only [maxLen] at h63; omega
  by_cases hn : n' = 0
  · subst hn
    obtain rfl : l' = [] := List.eq_nil_of_length_eq_zero hl'
    obtain ⟨b, off, rfl, _, _⟩ := hr.pl (by omega)
    have hrun := run_append_room_src (P := P) w t tx ty e i ht hi b off n n (.slice vx 0 c') 0 [] (by simpa [mcs] using hs) (by omega) (fun j hj => absurd hj (by simp)) (fun j hj => absurd hj (by simp))
    refine ⟨_, _, _, hrun, ?_, ?_⟩
    · rw [List.append_nil]
      exact hr
    · exact Below.refl _ _
  · have hrun := run_append_grow_src (P := P) w t tx ty e i z ht hi hz va n n (mcs l) ho.cellsD (.slice vx n' c') n' (mcs l') hs (by omega) (by omega) (hbytes _ (by omega))
    have hge := grownCap_ge w (n + n') n e
    have hcm : grownCap w (n + n') n e ≤ maxLen := grownCap_le_maxLen w (n + n') n e h63
    have hlen : (mcs l ++ mcs l').length = (n + n') * i.size := by rw [List.length_append, ho.newsLen, hs.newsLen, Nat.add_mul]
    have hO : OwM i.size e w (w.drew.alloc (.cells ((mcs l ++ mcs l').toArray ++ Builtin.zeroCells z.cells (grownCap w (n + n') n e - (n + n'))) e)) (.slice (some ⟨w.heap.size, 0, none⟩) (n + n') (grownCap w (n + n') n e)) (l ++ l') := by
      refine ⟨⟨?_, .inr ⟨w.heap.size, _, _, ?_, Nat.le_refl _, _root_.Go.heap_alloc_new w.drew _, ?_, hcm, ?_, ?_⟩⟩, (Below.refl _ _).drew.alloc (Nat.le_refl _) _, fun y hy => ?_⟩
      · rw [mcs_append, hlen, List.length_append, hl, hl']
      · rw [List.length_append, hl, hl']
      · rw [List.length_append, hl, hl']
        exact hge
      · simp only [Array.size_append, List.size_toArray, size_zeroCells, hzs, hlen, ← Nat.add_mul]
        congr 1
        omega
      · simp only [Array.toList_append]
        rw [List.length_append, hl, hl', ← hlen, mcs_append]
        exact List.take_left
      · rcases List.mem_append.1 hy with hy | hy
        · exact hr.size y hy
        · exact hr'.size y hy
    obtain ⟨a, c, e1, hR, _⟩ := hO.rd
    rw [List.length_append, hl, hl'] at e1 hR
    cases e1
    exact ⟨_, _, _, hrun, hR, hO.bel⟩

theorem wpList_append_full {ops : Array Oper} {rest : List Oper} {o : Oper} {a : Act} {Q : Exit → Act → World → Prop} (hgd : o.guard = none) (s x : Operand) (t tx : TypeId)
    (ho : o.op = .call { callee := .builtin .append, args := #[s, x], argTypes := #[t, tx] })
    (e e' : TypeId) (i : TypeInfo) (z : Value) (m bytes : Nat) (ht : P.underlying t = some (.slice e)) (htx : P.underlying tx = some (.slice e')) (hi : P.info? e = some i) (hz : i.zero = some z)
    (hsize : i.size = m) (hby : i.bytes = bytes) (hzs : z.cells.size = m)
    (va : Option Addr) (n : Nat) (l : List (List Int)) (hs : a.eval s = .slice va n n) (hr : RdM m w va n n l) (vx : Option Addr) (n' c' : Nat) (l' : List (List Int)) (hx : a.eval x = .slice vx n' c') (hr' : RdM m w vx n' c' l') (hpos : 0 < n + n')
    (h63 : n + n' ≤ maxLen) (hbytes : ∀ old, old < n + n' → Builtin.nextslicecap (n + n') old * bytes ≤ 281474976710656)
    (h : ∀ a'' c'' w', RdM m w' a'' (n + n') c'' (l ++ l') → Below w.heap.size w w' → wpList P ops Q rest (a.put o.dst (.slice a'' (n + n') c'')) w') : wpList P ops Q (o :: rest) a w :=
  wpList_plain hgd fun K hK => by
    obtain ⟨a'', c'', w', hrun, h2, h3⟩ := run_append_full (P := P) w m t tx o.type e e' i z bytes ht htx hi hz hsize hby hzs va n l hr vx n' c' l' hr' hpos h63 hbytes
    unfold Oper.wp execOp
    simp only [ho, resolve, invoke, builtin, Sem.run_bind, Sem.run_pure, Result.andThen_ok, List.map_toArray, List.map_cons, List.map_nil, hs, hx, hrun]
    exact hK _ _ (h a'' c'' w' h2 h3)
end
end Go.Proofs.Ytlkodgmnhphfcaa

/- Repaint: the contracts of the program's seen, damaged, Changed. Laid by repaint/lay.sh. -/
namespace Go.Proofs.Ytlkodgmnhphfcaa
open Go Go.RowKit

theorem Bx.kp {u v : World} {p : Nat} {a : Rc} (h : Bx u p a) {X : List Nat} (hb : Kp X u v) (hX : p ∉ X) : Bx v p a := ⟨hb.var h.obj hX⟩
theorem bnd_okq (r : Rc) : (bnd r).Ok := by
  rcases bnd_cases r with h | h
  · rw [bnd] at h ⊢
    by_cases he : emp r = true
    · rw [cut_emp1 he]; exact rz_ok
    · rw [Bool.not_eq_true] at he
      rw [cut_full he (by decide)] at h ⊢
      unfold oft at h ⊢
      split at h
      · rename_i hc
        rw [if_pos hc]; exact rz_ok
      · rename_i hc
        simp only [emp, Bool.or_eq_true, decide_eq_true_eq] at h
        omega
  · exact h.ok
/-- Cut, and moved: numbers that are not great. -/
theorem qcut_small (y : List Int) (r : Rc) : (cut (bnd r) (bnd ⟨0, 0, nm5 4 y, nm5 5 y⟩)).Ok ∧ (emp (cut (bnd r) (bnd ⟨0, 0, nm5 4 y, nm5 5 y⟩)) = false → Ck (cut (bnd r) (bnd ⟨0, 0, nm5 4 y, nm5 5 y⟩))) := by
  have key : ∀ a b : Rc, (emp a = true ∨ Ck a) → (emp b = true ∨ Ck b) → (cut a b).Ok ∧ (emp (cut a b) = false → Ck (cut a b)) := fun a b ha hb => by
    rcases ha with ha | ha
    · rw [cut_emp1 ha]; exact ⟨rz_ok, fun h => by cases h⟩
    · rcases hb with hb | hb
      · rw [cut_emp2 _ hb]; exact ⟨rz_ok, fun h => by cases h⟩
      · refine ⟨?_, cut_ck ha hb⟩
        rcases cut_two ha hb with h | ⟨h, h1, h2⟩
        · rw [h]; exact rz_ok
        · exact (cut_ck ha hb (by rw [h]; simp only [emp, Bool.or_eq_false_iff, decide_eq_false_iff_not]; omega)).ok
  exact key _ _ (bnd_cases r) (bnd_cases _)
theorem map_snoc {α β : Type} {f : α → β} {l : List α} {j : Nat} {x : α} (h : l[j]? = some x) : (l.take (j + 1)).map f = (l.take j).map f ++ [f x] := by
  rw [List.take_add_one, h, List.map_append]
  rfl
theorem fmap_snoc {α β : Type} {f : α → List β} {l : List α} {j : Nat} {x : α} (h : l[j]? = some x) : (l.take (j + 1)).flatMap f = (l.take j).flatMap f ++ f x := by
  rw [List.take_add_one, h, List.flatMap_append]
  simp

set_option maxRecDepth 100000 in
set_option maxHeartbeats 4000000 in
theorem qseen_any (z0 z1 z2 z3 z4 z5 : Int) (k : Ck (vrc [z0, z1, z2, z3, z4, z5])) (a : Option Addr) (n c : Nat) (l : List Rc) (w : World) (h : RdC w a n c l) (hn : n ≤ 1000000) :
    Calls Try.prog 27 #[.agg #[.int .i64 z0, .int .i64 z1, .int .i64 z2, .int .i64 z3, .int .i64 z4, .int .i64 z5], .slice a n c] w (Ret w (l.map (spt [z0, z1, z2, z3, z4, z5]))) := by
  obtain ⟨i0, hi, hz0, hz1, hz2⟩ := info3 infoC
  have HR := hid h
  have HL := hid h.len
  have hs := h.small
  have HK := hid k
  obtain ⟨y, hy⟩ : ∃ y, [z0, z1, z2, z3, z4, z5] = y := ⟨_, rfl⟩
  have e2 : nm5 2 y = z2 := by rw [← hy]; rfl
  have e3 : nm5 3 y = z3 := by rw [← hy]; rfl
  have e4 : nm5 4 y = z4 := by rw [← hy]; rfl
  have e5 : nm5 5 y = z5 := by rw [← hy]; rfl
  rw [hy] at HK ⊢
  obtain ⟨q, hq⟩ : ∃ q, bnd ⟨0, 0, z4, z5⟩ = q := ⟨_, rfl⟩
  have ok0 : (Rc.mk 0 0 z4 z5).Ok := by
    obtain ⟨k1, k2, k3, k4, k5, k6⟩ := k
    simp only [vrc, nm5, List.getD_eq_getElem?_getD, List.getElem?_cons_succ, List.getElem?_cons_zero, Option.getD_some] at k1 k2 k3 k4 k5 k6
    exact ⟨by dsimp only; omega, by dsimp only; omega, by dsimp only; omega, by dsimp only; omega⟩
  have CO := hid (fun u => bound_any ⟨0, 0, z4, z5⟩ ok0 u)
  rw [hq] at CO
  have HSP : Hid (∀ r : Rc, r.Ok → ∃ B C : Rc, (∀ u, Calls Try.prog 40 #[.agg #[.int .i64 r.x, .int .i64 r.y, .int .i64 r.w, .int .i64 r.h]] u fun e w' => e = .returned (.agg #[.int .i64 B.x, .int .i64 B.y, .int .i64 B.w, .int .i64 B.h]) ∧ Below u.heap.size u w')
      ∧ (∀ u, Calls Try.prog 42 #[.agg #[.int .i64 B.x, .int .i64 B.y, .int .i64 B.w, .int .i64 B.h], .agg #[.int .i64 q.x, .int .i64 q.y, .int .i64 q.w, .int .i64 q.h]] u fun e w' => e = .returned (.agg #[.int .i64 C.x, .int .i64 C.y, .int .i64 C.w, .int .i64 C.h]) ∧ Below u.heap.size u w')
      ∧ ∀ u, Calls Try.prog 41 #[.agg #[.int .i64 C.x, .int .i64 C.y, .int .i64 C.w, .int .i64 C.h], .int .i64 z2, .int .i64 z3] u fun e w' => e = .returned (.agg #[.int .i64 (spt y r).x, .int .i64 (spt y r).y, .int .i64 (spt y r).w, .int .i64 (spt y r).h]) ∧ Below u.heap.size u w') := fun r ok => by
    have hs1 := qcut_small y r
    rw [e4, e5, hq] at hs1
    have hs2 := sh_spt HK.out r
    rw [e2, e3, e4, e5, hq] at hs2
    rw [← hs2]
    refine ⟨bnd r, cut (bnd r) q, fun u => bound_any r ok u, fun u => cut_any _ _ (bnd_okq r) (by rw [← hq]; exact bnd_okq _) u, fun u => shift_any _ z2 z3 (fun he => ?_) (fun he => ?_) u⟩
    · obtain ⟨k1, k2, k3, k4, k5, k6⟩ := hs1.2 he
      have K := HK.out
      have g1 := K.x
      have g2 := K.r
      have g3 := K.w
      simp only [vrc] at g1 g2 g3
      omega
    · obtain ⟨k1, k2, k3, k4, k5, k6⟩ := hs1.2 he
      have K := HK.out
      have g1 := K.y
      have g2 := K.b
      have g3 := K.h
      simp only [vrc] at g1 g2 g3
      omega
  have HOK : Hid (∀ j : Nat, ∀ r ∈ (l.take j).map (spt y), r.Ok) := fun j r hr => by
    obtain ⟨x, _, rfl⟩ := List.mem_map.1 hr
    exact spt_ok y x
  have HV := hid (bk_new w #[.int .i64 z0, .int .i64 z1, .int .i64 z2, .int .i64 z3, .int .i64 z4, .int .i64 z5] 40)
  have HA := hid (bel_new w (.cells #[.int .i64 z0, .int .i64 z1, .int .i64 z2, .int .i64 z3, .int .i64 z4, .int .i64 z5] 40))
  clear h k ok0 hq hy e2 e3 e4 e5
  go_enter Try.func27, Try.ntmps27
  go_wp2_with fail
  refine (CO.out _).mono ?_
  rintro e w1 ⟨rfl, hb1⟩
  have hX := bx_new w1 q
  have HBW := hid (Below.on (Below.on HA.out hb1) (below_new w1 (ob q)))
  have HV1 := hid ((HV.out.on hb1).on (below_new w1 (ob q)))
  have HX1 := hid hX
  have hl1 := hX.lt
  have hl2 : w.heap.size < w1.heap.size := (HV.out.on hb1).lt
  clear hb1 hX CO HA HV
  go_wp2
  rw [ob] at HBW HV1
  generalize w1.alloc (.cells #[.int .i64 q.x, .int .i64 q.y, .int .i64 q.w, .int .i64 q.h] 36) = W0 at HBW HV1 HX1 hl1 ⊢
  go_loopw [6, 17] (fun v i wr => ∃ j : Nat, i = .int .i64 j ∧ j ≤ n ∧ OwC W0 wr v ((l.take j).map (spt y))) (fun _ i _ => n - (numOf i).toNat)
  case atStart => exact ⟨0, rfl, by omega, OwC.nil W0⟩
  case round =>
    obtain ⟨j, rfl, hj, hO⟩ := hrel
    have HO := hid hO
    have HT : Hid (((l.take j).map (spt y)).length = j) := by rw [Hid, List.length_map, List.length_take, HL.out]; omega
    obtain ⟨av, cv, rfl, _⟩ := rdc_of_owns hO.own (HOK.out j)
    rw [HT.out] at HO ⊢
    clear hO
    by_cases hgo : j < n
    · have e1 : decide ((j : Int) < n) = true := decide_eq_true (by omega)
      have e2 : (j : Int) < n := by omega
      obtain ⟨b, off, r, rfl, hb, hr, ok, he⟩ := ((HR.out.on HBW.out).on HO.out.bel).el hgo
      obtain ⟨_, d0, d1, d2, d3⟩ := he
      obtain ⟨B, C, CB, CC, CS⟩ := HSP.out r ok
      have HS := hid (map_snoc (f := spt y) hr)
      generalize spt y r = R at CS HS
      have HCB := hid CB
      have HCC := hid CC
      have HCS := hid CS
      clear hr ok CB CC CS hb
      go_upto_region 6 with fail
      have hbA := below_new wr (ob r)
      rw [ob] at hbA
      have HO2 := hid (HO.out.on hbA)
      have HS0 : Hid (Bk (wr.alloc (.cells #[.int .i64 r.x, .int .i64 r.y, .int .i64 r.w, .int .i64 r.h] 36)) w.heap.size 40 #[.int .i64 z0, .int .i64 z1, .int .i64 z2, .int .i64 z3, .int .i64 z4, .int .i64 z5] ∧ Bx (wr.alloc (.cells #[.int .i64 r.x, .int .i64 r.y, .int .i64 r.w, .int .i64 r.h] 36)) w1.heap.size q ∧ Bx (wr.alloc (.cells #[.int .i64 r.x, .int .i64 r.y, .int .i64 r.w, .int .i64 r.h] 36)) wr.heap.size r) := ⟨(HV1.out.on HO.out.bel).on hbA, (HX1.out.on HO.out.bel).on hbA, bx_new wr r⟩
      have hsz := HO.out.bel.size
      have hown : ∀ g, (Value.slice av j cv).ownBlock = some g → W0.heap.size ≤ g ∧ g < wr.heap.size := fun g hg => HO.out.own.lt g hg
      clear HO d0 d1 d2 d3 hbA
      generalize wr.alloc (.cells #[.int .i64 r.x, .int .i64 r.y, .int .i64 r.w, .int .i64 r.h] 36) = U at HO2 HS0 ⊢
      refine wp_region_held_drew (S := fun x => Bk x w.heap.size 40 #[.int .i64 z0, .int .i64 z1, .int .i64 z2, .int .i64 z3, .int .i64 z4, .int .i64 z5] ∧ Bx x w1.heap.size q ∧ Bx x wr.heap.size r) (by kernel_rfl) ?hh (fun hHeld => ?_)
      case hh => exact (⟨HS0.out.1.on (Below.refl _ _).drew, HS0.out.2.1.on (Below.refl _ _).drew, HS0.out.2.2.on (Below.refl _ _).drew⟩)
      refine wpAnyH_take (i := 0) (v := ?_) rfl (by kernel_rfl) (by kernel_rfl) (by kernel_rfl) (fun _ _ _ h => h) (Or.inl ⟨by kernel_rfl, ?hy0⟩) (by assumption) ?_
      case hy0 => (intro w hSw; (try dsimp only at hSw); have t2 := hSw.1.cell 2; have t3 := hSw.1.cell 3; obtain ⟨s0, s1, s2, s3⟩ := hSw.2.1.all; obtain ⟨r0, r1, r2, r3⟩ := hSw.2.2.all; go_simp; try with_reducible rfl)
      try simp only [Act.put, List.getElem_toArray, List.getElem_cons_zero, List.setIfInBounds_toArray, List.set_cons_zero, List.set_cons_succ]
      refine wpAnyH_take (i := 1) (v := ?_) rfl (by kernel_rfl) (by kernel_rfl) (by kernel_rfl) (fun _ _ _ h => h) (Or.inl ⟨by kernel_rfl, ?hy1⟩) (by assumption) ?_
      case hy1 => (intro w hSw; (try dsimp only at hSw); have t2 := hSw.1.cell 2; have t3 := hSw.1.cell 3; obtain ⟨s0, s1, s2, s3⟩ := hSw.2.1.all; obtain ⟨r0, r1, r2, r3⟩ := hSw.2.2.all; go_simp; try with_reducible rfl)
      try simp only [Act.put, List.getElem_toArray, List.getElem_cons_zero, List.getElem_cons_succ, List.setIfInBounds_toArray, List.set_cons_zero, List.set_cons_succ]
      refine wpAnyH_take (i := 3) (v := ?_) rfl (by kernel_rfl) (by kernel_rfl) (by kernel_rfl) (fun _ _ _ h => h) (Or.inl ⟨by kernel_rfl, ?hy3⟩) (by assumption) ?_
      case hy3 => (intro w hSw; (try dsimp only at hSw); have t2 := hSw.1.cell 2; have t3 := hSw.1.cell 3; obtain ⟨s0, s1, s2, s3⟩ := hSw.2.1.all; obtain ⟨r0, r1, r2, r3⟩ := hSw.2.2.all; go_simp; try with_reducible rfl)
      try simp only [Act.put, List.getElem_toArray, List.getElem_cons_zero, List.getElem_cons_succ, List.setIfInBounds_toArray, List.set_cons_zero, List.set_cons_succ]
      refine wpAnyH_take (i := 5) (v := ?_) rfl (by kernel_rfl) (by kernel_rfl) (by kernel_rfl) (fun _ _ _ h => h) (Or.inl ⟨by kernel_rfl, ?hy5⟩) (by assumption) ?_
      case hy5 => (intro w hSw; (try dsimp only at hSw); have t2 := hSw.1.cell 2; have t3 := hSw.1.cell 3; obtain ⟨s0, s1, s2, s3⟩ := hSw.2.1.all; obtain ⟨r0, r1, r2, r3⟩ := hSw.2.2.all; go_simp; try with_reducible rfl)
      try simp only [Act.put, List.getElem_toArray, List.getElem_cons_zero, List.getElem_cons_succ, List.setIfInBounds_toArray, List.set_cons_zero, List.set_cons_succ]
      refine wpAnyH_take (i := 6) (v := ?_) rfl (by kernel_rfl) (by kernel_rfl) (by kernel_rfl) (fun _ _ _ h => h) (Or.inl ⟨by kernel_rfl, ?hy6⟩) (by assumption) ?_
      case hy6 => (intro w hSw; (try dsimp only at hSw); have t2 := hSw.1.cell 2; have t3 := hSw.1.cell 3; obtain ⟨s0, s1, s2, s3⟩ := hSw.2.1.all; obtain ⟨r0, r1, r2, r3⟩ := hSw.2.2.all; go_simp; try with_reducible rfl)
      try simp only [Act.put, List.getElem_toArray, List.getElem_cons_zero, List.getElem_cons_succ, List.setIfInBounds_toArray, List.set_cons_zero, List.set_cons_succ]
      refine wpAnyH_take (i := 7) (v := ?_) rfl (by kernel_rfl) (by kernel_rfl) (by kernel_rfl) (fun _ _ _ h => h) (Or.inl ⟨by kernel_rfl, ?hy7⟩) (by assumption) ?_
      case hy7 => (intro w hSw; (try dsimp only at hSw); have t2 := hSw.1.cell 2; have t3 := hSw.1.cell 3; obtain ⟨s0, s1, s2, s3⟩ := hSw.2.1.all; obtain ⟨r0, r1, r2, r3⟩ := hSw.2.2.all; go_simp; try with_reducible rfl)
      try simp only [Act.put, List.getElem_toArray, List.getElem_cons_zero, List.getElem_cons_succ, List.setIfInBounds_toArray, List.set_cons_zero, List.set_cons_succ]
      refine wpAnyH_take (i := 8) (v := ?_) rfl (by kernel_rfl) (by kernel_rfl) (by kernel_rfl) (fun _ _ _ h => h) (Or.inl ⟨by kernel_rfl, ?hy8⟩) (by assumption) ?_
      case hy8 => (intro w hSw; (try dsimp only at hSw); have t2 := hSw.1.cell 2; have t3 := hSw.1.cell 3; obtain ⟨s0, s1, s2, s3⟩ := hSw.2.1.all; obtain ⟨r0, r1, r2, r3⟩ := hSw.2.2.all; go_simp; try with_reducible rfl)
      try simp only [Act.put, List.getElem_toArray, List.getElem_cons_zero, List.getElem_cons_succ, List.setIfInBounds_toArray, List.set_cons_zero, List.set_cons_succ]
      refine wpAnyH_ready (rs := [2]) (by kernel_rfl) (by simp) ?_
      refine AllReadyH.cons rfl (fun K hK => ?_) AllReadyH.nil
      go_simp
      go_wp2_with fail
      refine (HCB.out _).mono ?_
      rintro e u1 ⟨rfl, hb1⟩
      have HO3 := hid ((HO2.out.on (Below.refl _ _).drew).on hb1)
      have hH := (⟨hHeld.1.on hb1, hHeld.2.1.on hb1, hHeld.2.2.on hb1⟩ : Bk u1 w.heap.size 40 #[.int .i64 z0, .int .i64 z1, .int .i64 z2, .int .i64 z3, .int .i64 z4, .int .i64 z5] ∧ Bx u1 w1.heap.size q ∧ Bx u1 wr.heap.size r)
      refine hK.out _ _ hH (fun _ => ?_)
      clear hK K hHeld hb1 HO2 HS0
      have hHeld := hH
      clear hH
      refine wpAnyH_ready (rs := [4]) (by kernel_rfl) (by simp) ?_
      refine AllReadyH.cons rfl (fun K hK => ?_) AllReadyH.nil
      go_simp
      go_wp2_with fail
      refine (HCC.out _).mono ?_
      rintro e u2 ⟨rfl, hb2⟩
      replace HO3 := hid (HO3.out.on hb2)
      have hH := (⟨hHeld.1.on hb2, hHeld.2.1.on hb2, hHeld.2.2.on hb2⟩ : Bk u2 w.heap.size 40 #[.int .i64 z0, .int .i64 z1, .int .i64 z2, .int .i64 z3, .int .i64 z4, .int .i64 z5] ∧ Bx u2 w1.heap.size q ∧ Bx u2 wr.heap.size r)
      refine hK.out _ _ hH (fun _ => ?_)
      clear hK K hHeld hb2
      have hHeld := hH
      clear hH
      refine wpAnyH_ready (rs := [9]) (by kernel_rfl) (by simp) ?_
      refine AllReadyH.cons rfl (fun K hK => ?_) AllReadyH.nil
      go_simp
      go_wp2_with fail
      refine (HCS.out _).mono ?_
      rintro e u3 ⟨rfl, hb3⟩
      replace HO3 := hid (HO3.out.on hb3)
      have hH := (⟨hHeld.1.on hb3, hHeld.2.1.on hb3, hHeld.2.2.on hb3⟩ : Bk u3 w.heap.size 40 #[.int .i64 z0, .int .i64 z1, .int .i64 z2, .int .i64 z3, .int .i64 z4, .int .i64 z5] ∧ Bx u3 w1.heap.size q ∧ Bx u3 wr.heap.size r)
      refine hK.out _ _ hH (fun _ => ?_)
      clear hK K hHeld hb3
      have hHeld := hH
      clear hH
      refine wpAnyH_ready (rs := [10]) (by kernel_rfl) (by simp) ?_
      refine AllReadyH.cons rfl (fun K hK => ?_) AllReadyH.nil
      go_simp
      have hb4 := below_new u3 (ob R)
      rw [ob] at hb4
      have HSR := hid (srcR u3 R)
      replace HO3 := hid (HO3.out.on hb4)
      have hH := (⟨hHeld.1.on hb4, hHeld.2.1.on hb4, hHeld.2.2.on hb4⟩ : Bk (u3.alloc (.cells #[.int .i64 R.x, .int .i64 R.y, .int .i64 R.w, .int .i64 R.h] 36)) w.heap.size 40 #[.int .i64 z0, .int .i64 z1, .int .i64 z2, .int .i64 z3, .int .i64 z4, .int .i64 z5] ∧ Bx (u3.alloc (.cells #[.int .i64 R.x, .int .i64 R.y, .int .i64 R.w, .int .i64 R.h] 36)) w1.heap.size q ∧ Bx (u3.alloc (.cells #[.int .i64 R.x, .int .i64 R.y, .int .i64 R.w, .int .i64 R.h] 36)) wr.heap.size r)
      refine hK.out _ _ hH (fun _ => ?_)
      clear hK K hHeld hb4
      have hHeld := hH
      clear hH
      refine wpAnyH_ready (rs := [11]) (by kernel_rfl) (by simp) ?_
      refine AllReadyH.cons rfl (fun K hK => ?_) AllReadyH.nil
      refine step_append_own_src rfl (.tmp 21) (.tmp 31) 30 30 rfl W0.heap.size 36 i0 (.agg #[.int .i64 0, .int .i64 0, .int .i64 0, .int .i64 0]) 4 32 Try.underlying30 hi hz0 hz1 hz2 rfl _ _ _ (by simp [Act.eval]) HO3.out.own _ 1 _ (by simp [Act.eval]) HSR.out (by rw [HT.out]; simp only [maxLen]; omega) (fits32 (by rw [HT.out]; omega)) HO3.out.size ?_
      intro v5 u5 o5 g5
      have HO5 := hid (HO3.out.grown (m := [R]) o5 g5)
      have hk5 := kp_of_grown g5
      have hnot : ∀ p, (p < W0.heap.size ∨ wr.heap.size ≤ p) → p ∉ (Value.slice av j cv).ownBlock.toList := fun p hp hm => by {have h2 := hown p (by simpa using hm); omega}
      have hH := (⟨hHeld.1.kp hk5 (hnot _ (.inl (by omega))), hHeld.2.1.kp hk5 (hnot _ (.inl hl1)), hHeld.2.2.kp hk5 (hnot _ (.inr (Nat.le_refl _)))⟩ : Bk u5 w.heap.size 40 #[.int .i64 z0, .int .i64 z1, .int .i64 z2, .int .i64 z3, .int .i64 z4, .int .i64 z5] ∧ Bx u5 w1.heap.size q ∧ Bx u5 wr.heap.size r)
      refine hK.out _ _ hH (fun _ => ?_)
      clear hK K hHeld o5 g5 hk5
      have hHeld := hH
      clear hH HO3 HSR
      refine wpAnyH_take (i := 12) (v := ?_) rfl (by kernel_rfl) (by kernel_rfl) (by kernel_rfl) (fun _ _ _ h => h) (Or.inl ⟨by kernel_rfl, ?hy12⟩) (by assumption) ?_
      case hy12 => (intro w hSw; (try dsimp only at hSw); have t2 := hSw.1.cell 2; have t3 := hSw.1.cell 3; obtain ⟨s0, s1, s2, s3⟩ := hSw.2.1.all; obtain ⟨r0, r1, r2, r3⟩ := hSw.2.2.all; go_simp; try with_reducible rfl)
      try simp only [Act.put, List.getElem_toArray, List.getElem_cons_zero, List.getElem_cons_succ, List.setIfInBounds_toArray, List.set_cons_zero, List.set_cons_succ]
      refine wpAnyH_done (by kernel_rfl) ?_ _
      clear hHeld
      go_wp2
      go_roundw
      case rel => exact ⟨j + 1, by go_num, by omega, by rw [HS.out]; exact HO5.out⟩
      case measure => simp [numOf]; omega
    · have e1 : decide ((j : Int) < n) = false := decide_eq_false (by omega)
      have HE : Hid (l.take j = l) := List.take_of_length_le (by rw [HL.out]; omega)
      have hF := (HO.out.base HBW.out).ret (HOK.out j)
      rw [HE.out] at hF
      have HF := hid hF
      clear hF
      go_wp2
      go_ret
      exact HF.out
end Go.Proofs.Ytlkodgmnhphfcaa

/- Repaint: the contracts of the program's damaged and Changed. -/
namespace Go.Proofs.Ytlkodgmnhphfcaa
open Go Go.RowKit

/-- What the program has of damaged surfaces. -/
def qdm (y : List Int) (D : List (Int × List Rc)) : List Rc := D.flatMap fun d => if d.1 = nm5 0 y then d.2.map (spt y) else []
theorem qdm_ok {y : List Int} {D : List (Int × List Rc)} : ∀ r ∈ qdm y D, r.Ok := fun r hr => by
  obtain ⟨d, _, hr⟩ := List.mem_flatMap.1 hr
  split at hr
  · obtain ⟨x, _, rfl⟩ := List.mem_map.1 hr
    exact spt_ok y x
  · cases hr
theorem qdm_len {y : List Int} {M : Nat} : ∀ {D : List (Int × List Rc)}, (∀ d ∈ D, d.2.length ≤ M) → (qdm y D).length ≤ D.length * M
  | [], _ => by simp [qdm]
  | d :: D, h => by
    have h1 := qdm_len (y := y) (D := D) fun e he => h e (by simp [he])
    have h2 := h d (by simp)
    rw [qdm, List.flatMap_cons, List.length_append, List.length_cons, Nat.add_mul, Nat.one_mul]
    have h3 : (if d.1 = nm5 0 y then d.2.map (spt y) else []).length ≤ d.2.length := by
      split
      · rw [List.length_map]; exact Nat.le_refl _
      · exact Nat.zero_le _
    rw [qdm] at h1
    omega
theorem qdm_snoc {y : List Int} {D : List (Int × List Rc)} {j : Nat} {d : Int × List Rc} (h : D[j]? = some d) : qdm y (D.take (j + 1)) = qdm y (D.take j) ++ (if d.1 = nm5 0 y then d.2.map (spt y) else []) := fmap_snoc h

set_option maxRecDepth 100000 in
set_option maxHeartbeats 4000000 in
theorem qdamaged_any (z0 z1 z2 z3 z4 z5 : Int) (ok : (vrc [z0, z1, z2, z3, z4, z5]).Ok) (a : Option Addr) (n c : Nat) (ds : List Dv) (w : World) (h : RdD w a n c ds) (hn : n ≤ 1000) (hd : ∀ d ∈ ds, d.n ≤ 1000) :
    Calls Try.prog 16 #[.agg #[.int .i64 z0, .int .i64 z1, .int .i64 z2, .int .i64 z3, .int .i64 z4, .int .i64 z5], .slice a n c] w (Ret w (if dck (vrc [z0, z1, z2, z3, z4, z5]) = true then qdm [z0, z1, z2, z3, z4, z5] (ds.map ddl) else [])) := by
  obtain ⟨i0, hi, hz0, hz1, hz2⟩ := info3 infoC
  have HR := hid h
  have HL := hid h.len
  have hs := h.small
  have CC := hid (fun u => check_any (vrc [z0, z1, z2, z3, z4, z5]) ok u)
  rw [chk_dck ok] at CC
  rw [show vrc [z0, z1, z2, z3, z4, z5] = ⟨z2, z3, z4, z5⟩ from rfl] at CC ⊢
  have HV := hid (bk_new w #[.int .i64 z0, .int .i64 z1, .int .i64 z2, .int .i64 z3, .int .i64 z4, .int .i64 z5] 40)
  have HA := hid (bel_new w (.cells #[.int .i64 z0, .int .i64 z1, .int .i64 z2, .int .i64 z3, .int .i64 z4, .int .i64 z5] 40))
  cases hk : dck ⟨z2, z3, z4, z5⟩ with
  | false =>
    rw [hk] at CC
    rw [if_neg (by decide)]
    clear hk h
    go_enter Try.func16, Try.ntmps16
    go_wp2_with fail
    refine (qplace_any z0 z1 z2 z3 z4 z5 _).mono ?_
    rintro e w1 ⟨rfl, hb1⟩
    have HB1 := hid (Below.on HA.out hb1)
    clear hb1 HV HA
    go_wp2_with fail
    refine (CC.out _).mono ?_
    rintro e w2 ⟨rfl, hb2⟩
    have HB2 := hid (Below.on HB1.out hb2)
    clear hb2 HB1 CC
    go_wp2
    go_ret
    exact ⟨none, 0, rfl, RdC.nil _, HB2.out⟩
  | true =>
    rw [hk] at CC
    rw [if_pos rfl]
    have k : Ck (vrc [z0, z1, z2, z3, z4, z5]) := dck_iff.1 hk
    obtain ⟨y, hy⟩ : ∃ y, [z0, z1, z2, z3, z4, z5] = y := ⟨_, rfl⟩
    have e0 : nm5 0 y = z0 := by rw [← hy]; rfl
    have CS : Hid (∀ a n c l u, RdC u a n c l → n ≤ 1000000 → Calls Try.prog 27 #[.agg #[.int .i64 z0, .int .i64 z1, .int .i64 z2, .int .i64 z3, .int .i64 z4, .int .i64 z5], .slice a n c] u (Ret u (l.map (spt y)))) := fun a n c l u h1 h2 => by
      rw [← hy]
      exact qseen_any z0 z1 z2 z3 z4 z5 k a n c l u h1 h2
    rw [hy]
    have HOK : Hid (∀ j : Nat, ∀ r ∈ qdm y ((ds.map ddl).take j), r.Ok) := fun j => qdm_ok
    have HLN : Hid (∀ j : Nat, j ≤ n → (qdm y ((ds.map ddl).take j)).length ≤ 1000000) := fun j hj => by
      have h1 := qdm_len (y := y) (M := 1000) (D := (ds.map ddl).take j) fun d hd' => by
        obtain ⟨x, hx, rfl⟩ := List.mem_map.1 (List.mem_of_mem_take hd')
        have := hd x hx
        have := (h.ok x hx).rc.len
        show x.l.length ≤ 1000
        omega
      have h2 : ((ds.map ddl).take j).length ≤ 1000 := by rw [List.length_take, List.length_map, h.len]; omega
      have h3 := Nat.mul_le_mul_right 1000 h2
      omega
    have HDN := hid hd
    clear hk h k hy hd
    go_enter Try.func16, Try.ntmps16
    go_wp2_with fail
    refine (qplace_any z0 z1 z2 z3 z4 z5 _).mono ?_
    rintro e w1 ⟨rfl, hb1⟩
    have HB1 := hid (Below.on HA.out hb1)
    have HV1 := hid (HV.out.on hb1)
    clear hb1 HV HA
    go_wp2_with fail
    refine (CC.out _).mono ?_
    rintro e w2 ⟨rfl, hb2⟩
    have HB2 := hid (Below.on HB1.out hb2)
    have HV2 := hid (HV1.out.on hb2)
    clear hb2 HB1 HV1 CC
    go_wp2
    go_loopw [5, 14] (fun v i wr => ∃ j : Nat, i = .int .i64 j ∧ j ≤ n ∧ OwC w2 wr v (qdm y ((ds.map ddl).take j))) (fun _ i _ => n - (numOf i).toNat)
    case atStart => exact ⟨0, rfl, by omega, OwC.nil w2⟩
    case round =>
      obtain ⟨j, rfl, hj, hO⟩ := hrel
      have HO := hid hO
      have HLJ := hid (HLN.out j hj)
      obtain ⟨av, cv, rfl, _⟩ := rdc_of_owns hO.own (HOK.out j)
      clear hO
      by_cases hgo : j < n
      · have e1 : decide ((j : Int) < n) = true := decide_eq_true (by omega)
        have e2 : (j : Int) < n := by omega
        obtain ⟨b, off, d, rfl, hb, hr, ok, d0, d1⟩ := ((HR.out.on HB2.out).on HO.out.bel).el hgo
        have hdn := HDN.out d (List.mem_of_getElem? hr)
        have hrm : (ds.map ddl)[j]? = some (ddl d) := by rw [List.getElem?_map, hr]; rfl
        have HS1 : Hid (d.s = z0 → qdm y ((ds.map ddl).take (j + 1)) = qdm y ((ds.map ddl).take j) ++ d.l.map (spt y)) := fun h => by
          rw [qdm_snoc hrm, if_pos (show (ddl d).1 = nm5 0 y by rw [e0]; exact h)]
          rfl
        have HS0 : Hid (d.s ≠ z0 → qdm y ((ds.map ddl).take (j + 1)) = qdm y ((ds.map ddl).take j)) := fun h => by
          rw [qdm_snoc hrm, if_neg (show ¬ (ddl d).1 = nm5 0 y by rw [e0]; exact h), List.append_nil]
        have HOKN := hid (HOK.out (j + 1))
        have hbA := bel_new wr (.cells #[.int .i64 d.s, .slice d.a d.n d.c] 38)
        have HA := hid hbA
        have HD := hid ok.rc
        have hv0 := (HV2.out.on HO.out.bel).cell 0
        have HV0 := hid hv0
        obtain ⟨s, da, dn, dc, dl⟩ := d
        dsimp only at d0 d1 HA HD HS1 HS0 hdn
        generalize qdm y ((ds.map ddl).take j) = A0 at HO HS1 HS0 HLJ
        have hdl := HD.out.len
        clear hr hrm ok hbA hv0 HV0
        by_cases hse : s = z0
        · have HS := hid (HS1.out hse)
          clear HS1 HS0
          subst hse
          have t1 : (s == s) = true := by simp
          have t2 : (decide (s = s)) = true := by simp
          have vv := HV2.out.on HO.out.bel
          have q0 := vv.cell 0
          have q1 := vv.cell 1
          have q2 := vv.cell 2
          have q3 := vv.cell 3
          have q4 := vv.cell 4
          have q5 := vv.cell 5
          have ql := vv.lt
          clear vv
          have CS2 := hid (CS.out da dn dc dl _ (HD.out.on HA.out) (by omega))
          have HO2 := hid (HO.out.on HA.out)
          clear HO HD HA
          go_wp2_with fail
          refine CS2.out.mono ?_
          rintro e w4 ⟨a4, c4, rfl, h4, hb4⟩
          have HO3 := hid (HO2.out.on hb4)
          have HSR := hid (h4.src (P := Try.prog) (t := 30) (e := 36) Try.underlying30)
          have HLM : Hid ((dl.map (spt y)).length = dn) := by rw [Hid, List.length_map]; exact hdl
          generalize dl.map (spt y) = M at HSR HLM HS h4
          clear h4 hb4 HO2 CS2 d0 d1 q0 q1 q2 q3 q4 q5
          go_wp2_with (at_builtin; refine wpList_append_own_src _ rfl (.tmp 23) (.tmp 27) 30 30 rfl w2.heap.size 36 i0 (.agg #[.int .i64 0, .int .i64 0, .int .i64 0, .int .i64 0]) 4 32 Try.underlying30 hi hz0 hz1 hz2 rfl _ _ _ rfl HO3.out.own _ M.length _ rfl HSR.out (by have h1 := HLJ.out; have h2 := HLM.out; simp only [maxLen]; omega) (fits32 (by have h1 := HLJ.out; have h2 := HLM.out; omega)) HO3.out.size ?_; intro v5 w5 o5 g5; have HO5 := hid (HO3.out.grown (m := M) o5 g5); clear o5 g5)
          go_roundw
          case rel => exact ⟨j + 1, by go_num, by omega, by rw [HS.out]; exact HO5.out⟩
          case measure => simp [numOf]; omega
        · have t1 : (s == z0) = false := by simpa using hse
          have t2 : (decide (s = z0)) = false := by simpa using hse
          have HS := hid (HS0.out hse)
          clear HS1 HS0
          have vv := HV2.out.on HO.out.bel
          have q0 := vv.cell 0
          have ql := vv.lt
          clear vv
          have HO2 := hid (HO.out.on HA.out)
          clear HO HD HA
          go_wp2
          go_roundw
          case rel => exact ⟨j + 1, by go_num, by omega, by rw [HS.out]; exact HO2.out⟩
          case measure => simp [numOf]; omega
      · have e1 : decide ((j : Int) < n) = false := decide_eq_false (by omega)
        have HE : Hid ((ds.map ddl).take j = ds.map ddl) := List.take_of_length_le (by rw [List.length_map, HL.out]; omega)
        have hF := (HO.out.base HB2.out).ret (HOK.out j)
        rw [HE.out] at hF
        have HF := hid hF
        rw [HE.out]
        clear hF
        go_wp2
        go_ret
        exact HF.out
end Go.Proofs.Ytlkodgmnhphfcaa

/- Repaint: the contract of the program's Changed. -/
namespace Go.Proofs.Ytlkodgmnhphfcaa
open Go Go.RowKit

theorem qhp_same (y : List Int) (D : List (Int × List Rc)) : qhp (some y) (some y) D = if dck (vrc y) = true then qdm y D else [] := by
  rw [qhp, if_pos rfl]
  rfl
theorem qhp_diff {o v : Option (List Int)} (h : o ≠ v) (D : List (Int × List Rc)) : qhp o v D = (o.toList ++ v.toList).map vrc := by
  cases o with
  | none => cases v <;> rfl
  | some a =>
    cases v with
    | none => rfl
    | some b =>
      rw [qhp, if_neg (fun e => h (by rw [e]))]
      rfl
theorem qhp_len (o v : Option (List Int)) {D : List (Int × List Rc)} (hD : D.length ≤ 1000) (hd : ∀ d ∈ D, d.2.length ≤ 100) : (qhp o v D).length ≤ 100000 := by
  by_cases h : o = v
  · subst h
    cases o with
    | none => exact Nat.zero_le _
    | some y =>
      rw [qhp_same]
      split
      · have h1 := qdm_len (y := y) hd
        omega
      · exact Nat.zero_le _
  · rw [qhp_diff h, List.length_map, List.length_append]
    have h1 : o.toList.length ≤ 1 := by cases o <;> simp
    have h2 : v.toList.length ≤ 1 := by cases v <;> simp
    omega
theorem qhN_len (o v : List (List Int)) {D : List (Int × List Rc)} (hD : D.length ≤ 1000) (hd : ∀ d ∈ D, d.2.length ≤ 100) (k : Nat) : (qhN o v D k).length ≤ k * 100000 := by
  induction k with
  | zero => simp [qhN]
  | succ k ih =>
    have h := qhp_len o[k]? v[k]? hD hd
    rw [qhN_succ, List.length_append, Nat.add_mul, Nat.one_mul]
    omega
theorem qhp_ok {o v : Option (List Int)} {D : List (Int × List Rc)} (ho : ∀ y ∈ o.toList, (vrc y).Ok) (hv : ∀ y ∈ v.toList, (vrc y).Ok) : ∀ r ∈ qhp o v D, r.Ok := fun r hr => by
  by_cases h : o = v
  · subst h
    cases o with
    | none => cases hr
    | some y =>
      rw [qhp_same] at hr
      split at hr
      · exact qdm_ok r hr
      · cases hr
  · rw [qhp_diff h] at hr
    obtain ⟨y, hy, rfl⟩ := List.mem_map.1 hr
    rcases List.mem_append.1 hy with hy | hy
    · exact ho y hy
    · exact hv y hy
theorem opt_mem {α : Type} {l : List α} {k : Nat} {y : α} (h : y ∈ (l[k]?).toList) : y ∈ l := by
  cases e : l[k]? with
  | none => rw [e] at h; cases h
  | some x =>
    rw [e] at h
    obtain rfl : y = x := by simpa using h
    exact List.mem_of_getElem? e
theorem qhN_ok {o v : List (List Int)} {D : List (Int × List Rc)} (ho : ∀ y ∈ o, (vrc y).Ok) (hv : ∀ y ∈ v, (vrc y).Ok) (k : Nat) : ∀ r ∈ qhN o v D k, r.Ok := by
  induction k with
  | zero => intro r hr; cases hr
  | succ k ih =>
    intro r hr
    rw [qhN_succ] at hr
    rcases List.mem_append.1 hr with hr | hr
    · exact ih r hr
    · exact qhp_ok (fun y hy => ho y (opt_mem hy)) (fun y hy => hv y (opt_mem hy)) r hr

theorem infoVq : (Try.prog.info? 40).map (fun i => (i.zero, i.size, i.bytes)) = some (some (.agg #[.int .i64 0, .int .i64 0, .int .i64 0, .int .i64 0, .int .i64 0, .int .i64 0]), 6, 48) := by kernel_rfl
set_option maxRecDepth 100000 in
set_option maxHeartbeats 4000000 in
theorem qchanged_any (a : Option Addr) (n c : Nat) (o : List (List Int)) (a' : Option Addr) (n' c' : Nat) (v : List (List Int)) (a2 : Option Addr) (n2 c2 : Nat) (ds : List Dv) (w : World) (h : RdM 6 w a n c o) (h' : RdM 6 w a' n' c' v) (hd : RdD w a2 n2 c2 ds) (ho : ∀ y ∈ o, (vrc y).Ok) (hv : ∀ y ∈ v, (vrc y).Ok) (hn : n ≤ 1000) (hn' : n' ≤ 1000) (hnd : n2 ≤ 1000) (hdn : ∀ d ∈ ds, d.n ≤ 100) :
    Calls Try.prog 9 #[.slice a n c, .slice a' n' c', .slice a2 n2 c2] w (Ret w (dfl (chl o v (ds.map ddl)))) := by
  obtain ⟨i0, hi, hz0, hz1, hz2⟩ := info3 infoC
  obtain ⟨i1, hj1, hy0, hy1, hy2⟩ := infoMP infoVq
  obtain ⟨M, hM⟩ : ∃ M, max n n' = M := ⟨_, rfl⟩
  have e0 : max (n : Int) (n' : Int) = (M : Int) := by omega
  have HM := hid hM
  have hM1 : M ≤ 1000 := by omega
  have HR := hid h
  have HR' := hid h'
  have HD := hid hd
  have HL := hid h.len
  have HL' := hid h'.len
  have hs := h.small
  have hs' := h'.small
  have hs2 := hd.small
  obtain ⟨D, hDD⟩ : ∃ D, ds.map ddl = D := ⟨_, rfl⟩
  have hDl : D.length ≤ 1000 := by rw [← hDD, List.length_map, hd.len]; exact hnd
  have hDd : ∀ d ∈ D, d.2.length ≤ 100 := fun d hm => by
    rw [← hDD] at hm
    obtain ⟨x, hx, rfl⟩ := List.mem_map.1 hm
    have := hdn x hx
    have := (hd.ok x hx).rc.len
    show x.l.length ≤ 100
    omega
  have HLN : Hid (∀ j : Nat, j ≤ M → (qhN o v D j).length ≤ 100000000) := fun j hj => by
    have h1 := qhN_len o v hDl hDd j
    have h2 := Nat.mul_le_mul_right 100000 (Nat.le_trans hj hM1)
    omega
  have HLO : Hid (∀ j : Nat, (qhp o[j]? v[j]? D).length ≤ 100000) := fun j => qhp_len _ _ hDl hDd
  have HOK : Hid (∀ j : Nat, ∀ r ∈ qhN o v D j, r.Ok) := fun j => qhN_ok ho hv j
  have HVO := hid ho
  have HVV := hid hv
  have HDN : Hid (∀ d ∈ ds, d.n ≤ 1000) := fun d hm => by have := hdn d hm; omega
  have HE : Hid (dfl (qhN o v D M) = dfl (chl o v D)) := by
    rw [Hid, qhN_dfl, chl, HL.out, HL'.out, HM.out]
  have HFL : Hid (∀ a c l u, RdC u a l.length c l → Calls Try.prog 18 #[.slice a l.length c] u (Ret u (dfl l))) := fun a c l u hu => dflat_any a _ c l u hu
  have HDM := hid hDD
  rw [hDD]
  generalize dfl (chl o v D) = R at HE ⊢
  clear h h' hd ho hv hdn hDl hDd hM hDD
  go_enter Try.func9, Try.ntmps9
  go_wp2
  go_loopw [7, 16] (fun s7 i wr => ∃ j : Nat, i = .int .i64 j ∧ j ≤ M ∧ OwC w wr s7 (qhN o v D j)) (fun _ i _ => M - (numOf i).toNat)
  case atStart => exact ⟨0, rfl, by omega, OwC.nil w⟩
  case round =>
    obtain ⟨j, rfl, hj, hO⟩ := hrel
    have HO := hid hO
    have HLJ := hid (HLN.out j hj)
    obtain ⟨av, cv, rfl, hrv⟩ := rdc_of_owns hO.own (HOK.out j)
    by_cases hgo : j < M
    · have e1 : decide ((j : Int) < M) = true := decide_eq_true (by omega)
      have e2 : (j : Int) < M := by omega
      have C1 := hid (qat_any a n c o wr (HR.out.on HO.out.bel) j (by omega))
      have C2 := hid (qat_any a' n' c' v wr (HR'.out.on HO.out.bel) j (by omega))
      have HS := hid (qhN_succ o v D j)
      have HPL := hid (HLO.out j)
      have HV1 : Hid (∀ y ∈ (o[j]?).toList, (vrc y).Ok) := fun y hy => HVO.out y (opt_mem hy)
      have HV2 : Hid (∀ y ∈ (v[j]?).toList, (vrc y).Ok) := fun y hy => HVV.out y (opt_mem hy)
      have hne : o[j]? ≠ none ∨ v[j]? ≠ none := by
        rcases Nat.lt_or_ge j n with h1 | h1
        · exact .inl (by rw [List.getElem?_eq_getElem (by rw [HL.out]; exact h1)]; simp)
        · exact .inr (by rw [List.getElem?_eq_getElem (by rw [HL'.out]; have := HM.out; omega)]; simp)
      generalize o[j]? = oj at C1 HS HPL HV1 hne
      generalize v[j]? = vj at C2 HS HPL HV2 hne
      generalize qhN o v D j = A0 at HO HLJ HS
      have C3 : Hid (∀ a3 a4, RdM 6 wr a3 oj.toList.length oj.toList.length oj.toList → RdM 6 wr a4 vj.toList.length vj.toList.length vj.toList → Calls Try.prog 15 #[.slice a3 oj.toList.length oj.toList.length, .slice a4 vj.toList.length vj.toList.length] wr fun e w' => e = .returned (.bool (decide (oj = vj))) ∧ ∃ q, w' = wr.drewN q) := fun a3 a4 h3 h4 => qsame_any a3 a4 oj vj wr h3 h4 hne
      clear hO hrv
      by_cases hsm : oj = vj
      · subst hsm
        rw [show decide (oj = oj) = true by simp] at C3
        cases oj with
        | none => simp at hne
        | some y =>
          rw [qhp_same] at HS HPL
          have HY := hid (HV2.out y (by simp))
          have HX := HR'.out.size
          clear hne HV1 HV2
          go_wp2_with fail
          refine C1.out.mono ?_
          rintro e u1 ⟨⟨a3, rfl, h3⟩, rfl⟩
          have H3 := hid h3
          clear h3
          go_wp2_with fail
          refine C2.out.mono ?_
          rintro e u2 ⟨⟨a4, rfl, h4⟩, rfl⟩
          have H4 := hid h4
          clear h4 C1 C2
          go_wp2_with fail
          refine (C3.out a3 a4 H3.out H4.out).mono ?_
          rintro e u3 ⟨rfl, q, rfl⟩
          have HO3 := hid (HO.out.on (below_drewN (Below.refl _ _) q))
          have h4 := H4.out.drewN q
          clear C3 H3 H4 HO
          obtain ⟨b4, off4, z0, z1, z2, z3, z4, z5, rfl, hb4, hy4, d0, d1, d2, d3, d4, d5⟩ := RdM.el6 (j := 0) h4 (show 0 < 1 by decide)
          simp only [Option.toList_some, List.getElem?_cons_zero, Option.some.injEq] at hy4
          subst hy4
          rw [Nat.zero_mul, Nat.add_zero] at d0 d1 d2 d3 d4 d5
          have CD := hid (qdamaged_any z0 z1 z2 z3 z4 z5 HY.out a2 n2 c2 ds _ (HD.out.on HO3.out.bel) hnd HDN.out)
          rw [HDM.out] at CD
          generalize (if dck (vrc [z0, z1, z2, z3, z4, z5]) = true then qdm [z0, z1, z2, z3, z4, z5] D else []) = B0 at CD HS HPL
          clear h4 HY
          go_wp2_with fail
          refine CD.out.mono ?_
          rintro e w5 ⟨a5, c5, rfl, h5, hb5⟩
          have HO5 := hid (HO3.out.on hb5)
          have HSR := hid (h5.src (P := Try.prog) (t := 30) (e := 36) Try.underlying30)
          clear h5 hb5 HO3 CD d0 d1 d2 d3 d4 d5
          go_wp2_with (at_builtin; refine wpList_append_own_src _ rfl (.tmp 28) (.tmp 33) 30 30 rfl w.heap.size 36 i0 (.agg #[.int .i64 0, .int .i64 0, .int .i64 0, .int .i64 0]) 4 32 Try.underlying30 hi hz0 hz1 hz2 rfl _ _ _ rfl HO5.out.own _ B0.length _ rfl HSR.out (by have h1 := HLJ.out; have h2 := HPL.out; simp only [maxLen]; omega) (fits32 (by have h1 := HLJ.out; have h2 := HPL.out; omega)) HO5.out.size ?_; intro v6 w6 o6 g6; have HO6 := hid (HO5.out.grown (m := B0) o6 g6); clear o6 g6)
          go_roundw
          case rel => exact ⟨j + 1, by go_num, by omega, by rw [HS.out]; exact HO6.out⟩
          case measure => simp [numOf]; omega
      · rw [show decide (oj = vj) = false by simpa using hsm] at C3
        rw [qhp_diff hsm] at HS HPL
        have hpos : 0 < oj.toList.length + vj.toList.length := by
          rcases hne with h1 | h1
          · cases oj with
            | none => exact absurd rfl h1
            | some y =>
              rw [Option.toList_some, List.length_singleton]
              omega
          · cases vj with
            | none => exact absurd rfl h1
            | some y =>
              rw [Option.toList_some, List.length_singleton]
              omega
        have hl1 : oj.toList.length ≤ 1 := by cases oj <;> simp
        have hl2 : vj.toList.length ≤ 1 := by cases vj <;> simp
        have HVA : Hid (∀ y ∈ oj.toList ++ vj.toList, (vrc y).Ok) := fun y hy => by
          rcases List.mem_append.1 hy with hy | hy
          · exact HV1.out y hy
          · exact HV2.out y hy
        clear hne HV1 HV2 hsm
        generalize oj.toList = ol at *
        generalize vj.toList = vl at *
        go_wp2_with fail
        refine C1.out.mono ?_
        rintro e u1 ⟨⟨a3, rfl, h3⟩, rfl⟩
        have H3 := hid h3
        clear h3
        go_wp2_with fail
        refine C2.out.mono ?_
        rintro e u2 ⟨⟨a4, rfl, h4⟩, rfl⟩
        have H4 := hid h4
        clear h4 C1 C2
        go_wp2_with fail
        refine (C3.out a3 a4 H3.out H4.out).mono ?_
        rintro e u3 ⟨rfl, q, rfl⟩
        have HO3 := hid (HO.out.on (below_drewN (Below.refl _ _) q))
        have H3' := hid (H3.out.drewN q)
        have H4' := hid (H4.out.drewN q)
        clear C3 H3 H4 HO
        go_wp2_with (at_builtin; refine wpList_append_full _ rfl (.tmp 36) (.tmp 37) 22 22 rfl 40 40 i1 (.agg #[.int .i64 0, .int .i64 0, .int .i64 0, .int .i64 0, .int .i64 0, .int .i64 0]) 6 48 Try.underlying22 Try.underlying22 hj1 hy0 hy1 hy2 rfl a3 ol.length ol rfl H3'.out a4 vl.length vl.length vl rfl H4'.out hpos (by simp only [maxLen]; omega) (fits48 (by omega) (by omega)) ?_; intro a6 c6 w6 hr6 hb6; have HR6 := hid hr6; have HO6 := hid (HO3.out.on hb6); clear hr6 hb6)
        clear H3' H4' HO3
        go_wp2_with fail
        refine (qplaces_any a6 _ c6 (ol ++ vl) _ HR6.out HVA.out (by omega)).mono ?_
        rintro e w7 ⟨a7, c7, rfl, h7, hb7⟩
        have HO7 := hid (HO6.out.on hb7)
        have HSR := hid (h7.src (P := Try.prog) (t := 30) (e := 36) Try.underlying30)
        generalize (ol ++ vl).map vrc = B0 at HSR HS HPL h7
        clear h7 hb7 HO6 HR6
        go_wp2_with (at_builtin; refine wpList_append_own_src _ rfl (.tmp 35) (.tmp 39) 30 30 rfl w.heap.size 36 i0 (.agg #[.int .i64 0, .int .i64 0, .int .i64 0, .int .i64 0]) 4 32 Try.underlying30 hi hz0 hz1 hz2 rfl _ _ _ rfl HO7.out.own _ B0.length _ rfl HSR.out (by have h1 := HLJ.out; have h2 := HPL.out; simp only [maxLen]; omega) (fits32 (by have h1 := HLJ.out; have h2 := HPL.out; omega)) HO7.out.size ?_; intro v8 w8 o8 g8; have HO8 := hid (HO7.out.grown (m := B0) o8 g8); clear o8 g8)
        go_roundw
        case rel => exact ⟨j + 1, by go_num, by omega, by rw [HS.out]; exact HO8.out⟩
        case measure => simp [numOf]; omega
    · have e1 : decide ((j : Int) < M) = false := decide_eq_false (by omega)
      obtain rfl : j = M := by omega
      have HB := hid hO.bel
      have CF := hid (HFL.out av cv _ wr hrv)
      rw [HE.out] at CF
      clear hO hrv HO HLJ
      go_wp2_with fail
      refine CF.out.mono ?_
      rintro e w9 ⟨a9, c9, rfl, h9, hb9⟩
      have H9 := hid h9
      have HB9 := hid (Below.on HB.out hb9)
      clear h9 hb9
      go_wp2
      go_ret
      exact ⟨a9, c9, rfl, H9.out, HB9.out⟩
end Go.Proofs.Ytlkodgmnhphfcaa
