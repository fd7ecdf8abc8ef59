/- The contracts of the document's put, Flat, Add, Clip, Move; awake. -/
import Derived.Test.YtlkodgmnhphfcaaDmgB
import Derived.Test.YtlkodgmnhphfcaaRgfJ
namespace Go.Proofs.Ytlkodgmnhphfcaa
open Go Go.RowKit

set_option maxRecDepth 100000 in
set_option maxHeartbeats 1000000 in
theorem rput_any (a : Option Addr) (n c : Nat) (l : List Rc) (r : Rc) (ok : r.Ok) (w : World) (h : RdC w a n c l) (hr : Reg l) (hn : n ≤ 40) :
    Calls Try.prog 29 #[.slice a n c, .agg #[.int .i64 r.x, .int .i64 r.y, .int .i64 r.w, .int .i64 r.h]] w (Ret w (dput l r)) := by
  obtain rfl := h.len
  have hlo := ofl_length r
  have hU := dor_len hr hn r
  have hd := (dor hr r).1
  have C1 := hid (fun u => rofl_any r ok u)
  have C2 := hid (fun u a2 c2 (h1 : RdC u a l.length c l) (h2 : RdC u a2 (ofl r).length c2 (ofl r)) => rmake_any a a2 l.length c (ofl r).length c2 l (ofl r) 0 u h1 h2 (by omega))
  rw [fH0, unn_reg hr (ofl_reg r)] at C2
  have C3 := hid (fun u a2 c2 (h1 : RdC u a2 (mk or l (ofl r)).length c2 (mk or l (ofl r))) => rcovers_any a2 _ c2 _ u h1 (by omega))
  rw [if_pos (rgn_iff.2 hd)] at C3
  have HK : Hid (40 < (mk or l (ofl r)).length → (cvl (mk or l (ofl r))).Ok) := fun h => (cvl_full hd.ck (mk_ne h)).ok
  rw [dput]
  generalize mk or l (ofl r) = U at C2 C3 HK hU ⊢
  generalize ofl r = O at C1 C2
  generalize cvl U = V at C3 HK ⊢
  obtain ⟨D, hD⟩ : ∃ D, D = if 40 < U.length then [V] else U := ⟨_, rfl⟩
  have HD1 : Hid (40 < U.length → D = [V]) := fun h => by rw [hD, if_pos h]
  have HD2 : Hid (¬ 40 < U.length → D = U) := fun h => by rw [hD, if_neg h]
  rw [← hD]
  clear hD
  have H0 := hid (h.on (below_new w (ob r)))
  obtain ⟨c0, c1, c2, c3⟩ := (bx_new w r).all
  have HB := hid (below_new w (ob r))
  rw [ob] at H0 HB
  clear h ok hr hn hlo hd
  go_enter Try.func29, Try.ntmps29
  go_wp2_with fail
  refine (C1.out _).mono ?_
  rintro e w1 ⟨a1, c1', rfl, h1, hb1⟩
  have H1 := hid h1
  replace H0 := hid (H0.out.on hb1)
  replace HB := hid (Below.on HB.out hb1)
  clear h1 hb1 c0 c1 c2 c3
  go_wp2_with fail
  refine (C2.out _ _ _ H0.out H1.out).mono ?_
  rintro e w2 ⟨a2, c2', rfl, h2, hb2⟩
  have H2 := hid h2
  replace HB := hid (Below.on HB.out hb2)
  clear h2 hb2
  by_cases hg : 40 < U.length
  · have e1 : decide (40 < (U.length : Int)) = true := decide_eq_true (by omega)
    replace HD1 := hid (HD1.out hg)
    go_wp2_with fail
    refine (C3.out _ _ _ H2.out).mono ?_
    rintro e w3 ⟨r3, rfl, rfl, hb3⟩
    replace HB := hid (Below.on HB.out hb3)
    have HL := hid (rdc_lit w3 r3 (HK.out hg))
    have HB3 := hid (Below.on HB.out (below_new w3 (ob r3)))
    rw [ob] at HB3
    clear hb3
    go_wp2
    go_ret
    rw [HD1.out]
    exact ⟨_, _, rfl, HL.out, HB3.out⟩
  · have e1 : decide (40 < (U.length : Int)) = false := decide_eq_false (by omega)
    replace HD2 := hid (HD2.out hg)
    go_wp2
    go_ret
    rw [HD2.out]
    exact ⟨_, _, rfl, H2.out, HB.out⟩

set_option maxRecDepth 100000 in
set_option maxHeartbeats 1000000 in
theorem rflat_any (a : Option Addr) (n c : Nat) (l : List Rc) (w : World) (h : RdC w a n c l) :
    Calls Try.prog 30 #[.slice a n c] w (Ret w (dfl l)) := by
  have HL := hid h.len
  have hs := h.small
  have H := hid h
  clear h
  go_enter Try.func30, Try.ntmps30
  go_wp2
  go_loopw [3, 4] (fun s3 s4 wr => ∃ (j : Nat) (b : Option Addr) (d : Nat), s4 = .int .i64 j ∧ s3 = .slice b (dfl (l.take j)).length d ∧ j ≤ n ∧ RdC wr b (dfl (l.take j)).length d (dfl (l.take j)) ∧ RowKit.Below w.heap.size w wr) (fun _ s4 _ => n - (numOf s4).toNat)
  case atStart => exact ⟨0, _, _, rfl, rfl, by omega, RdC.nil _, Below.refl _ _⟩
  case round =>
    obtain ⟨j, b, d, rfl, rfl, hj, h3, hb⟩ := hrel
    have H3 := hid h3
    have HB := hid hb
    clear h3 hb
    by_cases hgo : j < n
    · have e1 : decide ((j : Int) < n) = true := decide_eq_true (by omega)
      obtain ⟨b2, off, r, rfl, _, hr, ok, he⟩ := (H.out.on HB.out).el hgo
      obtain ⟨_, c0, c1, c2, c3⟩ := he
      have hreg := dfl_reg (l.take j)
      have hlen := dfl_len (l.take j)
      have HS := hid (dfl_snoc hr)
      generalize dfl (l.take j) = A0 at hreg hlen HS H3 ⊢
      have CP := hid (fun u (h1 : RdC u b A0.length d A0) => rput_any b _ d _ r ok u h1 hreg hlen)
      generalize dput A0 r = D at CP HS
      clear hr ok hreg hlen
      go_wp2_with fail
      refine (CP.out _ H3.out).mono ?_
      rintro e w3 ⟨a3, c3', rfl, h4, hb3⟩
      have H4 := hid h4
      replace HB := hid (Below.on HB.out hb3)
      clear h4 hb3
      go_wp2
      go_roundw
      case rel => exact ⟨j + 1, _, _, by go_num, by rw [HS.out], by omega, by rw [HS.out]; exact H4.out, HB.out⟩
      case measure => simp [numOf]; omega
    · have e1 : decide ((j : Int) < n) = false := decide_eq_false (by omega)
      have HE : Hid (l.take j = l) := List.take_of_length_le (by rw [HL.out]; omega)
      rw [HE.out] at H3 ⊢
      go_wp2
      go_ret
      exact ⟨_, _, rfl, H3.out, HB.out⟩



set_option maxRecDepth 100000 in
set_option maxHeartbeats 1000000 in
theorem raddr_any (a : Option Addr) (n c : Nat) (l : List Rc) (r : Rc) (ok : r.Ok) (w : World) (h : RdC w a n c l) :
    Calls Try.prog 19 #[.slice a n c, .agg #[.int .i64 r.x, .int .i64 r.y, .int .i64 r.w, .int .i64 r.h]] w (Ret w (dput (dfl l) r)) := by
  have C1 := hid (fun u hu => rflat_any a n c l u hu)
  have C3 := hid (fun u a1 c1 (h1 : RdC u a1 (dfl l).length c1 (dfl l)) => rput_any a1 _ c1 _ r ok u h1 (dfl_reg l) (dfl_len l))
  generalize dfl l = D at C1 C3 ⊢
  generalize dput D r = E at C3 ⊢
  have H0 := hid (h.on (below_new w (ob r)))
  have HX : Hid (Bx (w.alloc (ob r)) w.heap.size r) := bx_new w r
  have HB := hid (below_new w (ob r))
  clear h ok
  go_enter Try.func19, Try.ntmps19
  go_upto_region 1 with fail
  rw [← ob]
  generalize w.alloc (ob r) = u0 at H0 HX HB ⊢
  refine wp_region_held_drew (S := fun x => Below u0.heap.size u0 x) (by kernel_rfl) (Below.refl _ _).drew (fun hHeld => ?_)
  have hHeld : Below u0.heap.size u0 u0.drew := hHeld
  refine wpAnyH_take (i := 0) (v := ?_) rfl (by kernel_rfl) (by kernel_rfl) (by kernel_rfl) (fun _ _ _ h => h) (Or.inl ⟨by kernel_rfl, ?hy0⟩) (by assumption) ?_
  case hy0 => (intro w hSw; (try dsimp only at hSw); obtain ⟨t00, t01, t02, t03⟩ := (HX.out.on hSw).all; go_simp; try with_reducible rfl)
  try simp only [Act.put, List.getElem_toArray, List.getElem_cons_zero, List.setIfInBounds_toArray, List.set_cons_zero, List.set_cons_succ]
  refine wpAnyH_take (i := 2) (v := ?_) rfl (by kernel_rfl) (by kernel_rfl) (by kernel_rfl) (fun _ _ _ h => h) (Or.inl ⟨by kernel_rfl, ?hy2⟩) (by assumption) ?_
  case hy2 => (intro w hSw; (try dsimp only at hSw); obtain ⟨t00, t01, t02, t03⟩ := (HX.out.on hSw).all; go_simp; try with_reducible rfl)
  try simp only [Act.put, List.getElem_toArray, List.getElem_cons_zero, List.getElem_cons_succ, List.setIfInBounds_toArray, List.set_cons_zero, List.set_cons_succ]
  refine wpAnyH_ready (rs := [1]) (by kernel_rfl) (by simp) ?_
  refine AllReadyH.cons rfl (fun K hK => ?_) AllReadyH.nil
  go_simp
  go_wp2_with fail
  refine (C1.out _ (H0.out.on hHeld)).mono ?_
  rintro e u1 ⟨a1, c1, rfl, h1, hb1⟩
  have H1 := hid h1
  replace hHeld := Below.on hHeld hb1
  refine hK.out _ _ hHeld (fun _ => ?_)
  clear hK K hb1 h1
  refine wpAnyH_ready (rs := [3]) (by kernel_rfl) (by simp) ?_
  refine AllReadyH.cons rfl (fun K hK => ?_) AllReadyH.nil
  go_simp
  go_wp2_with fail
  refine (C3.out _ _ _ H1.out).mono ?_
  rintro e u3 ⟨a3, c3, rfl, h3, hb3⟩
  have H3 := hid h3
  replace hHeld := Below.on hHeld hb3
  refine hK.out _ _ hHeld (fun _ => ?_)
  clear hK K hb3 h3
  refine wpAnyH_take (i := 4) (v := ?_) rfl (by kernel_rfl) (by kernel_rfl) (by kernel_rfl) (fun _ _ _ h => h) (Or.inl ⟨by kernel_rfl, ?hy4⟩) (by assumption) ?_
  case hy4 => (intro w hSw; (try dsimp only at hSw); obtain ⟨t00, t01, t02, t03⟩ := (HX.out.on hSw).all; go_simp; try with_reducible rfl)
  try simp only [Act.put, List.getElem_toArray, List.getElem_cons_zero, List.getElem_cons_succ, List.setIfInBounds_toArray, List.set_cons_zero, List.set_cons_succ]
  refine wpAnyH_done (by kernel_rfl) ?_ _
  go_wp2
  go_ret
  exact ⟨_, _, rfl, H3.out, Below.on HB.out hHeld⟩
end Go.Proofs.Ytlkodgmnhphfcaa
