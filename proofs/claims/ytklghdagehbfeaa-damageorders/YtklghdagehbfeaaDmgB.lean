/- The contracts of the program's few, added, Flat, Add, Clip, Move. -/
import Derived.Test.YtklghdagehbfeaaDmgA
import Derived.Test.YtklghdagehbfeaaRgnU
import Derived.Test.YtklghdagehbfeaaRgfG
namespace Go.Proofs.Ytklghdagehbfeaa
open Go Go.RowKit

/-- More of them, one by one. -/
def dfm (l m : List Rc) : List Rc := m.foldl dput l
theorem dfm_snoc {l m : List Rc} {j : Nat} {r : Rc} (h : m[j]? = some r) : dfm l (m.take (j + 1)) = dput (dfm l (m.take j)) r := by
  rw [List.take_add_one, h]
  simp [dfm]
theorem dfm_all {l : List Rc} (h : Reg l) (h' : l.length ≤ 40) (m : List Rc) : Reg (dfm l m) ∧ (dfm l m).length ≤ 40 := by
  induction m generalizing l with
  | nil => exact ⟨h, h'⟩
  | cons r m ih => exact ih (dput_reg h r) (dput_len l r)

set_option maxRecDepth 100000 in
set_option maxHeartbeats 1000000 in
theorem dfew_any (a : Option Addr) (n c : Nat) (l : List Rc) (w : World) (h : RdC w a n c l) (hr : Reg l) :
    Calls Try.prog 35 #[.slice a n c] w (Ret w (if 40 < l.length then [cvl l] else l)) := by
  obtain rfl := h.len
  have hs := h.small
  have H := hid h
  clear h
  by_cases hg : 40 < l.length
  · have e1 : decide (40 < (l.length : Int)) = true := decide_eq_true (by omega)
    have k := cvl_full hr.ck (fun e => by rw [e] at hg; exact absurd hg (by decide))
    have C1 := hid (fun u hu => rcoverall_any a l.length c l u hu)
    have C2 := hid (fun u => of_any (cvl l) k.ok u)
    rw [if_pos (rgn_iff.2 hr)] at C1
    rw [ofl_ck k] at C2
    rw [if_pos hg]
    generalize cvl l = A0 at C1 C2 ⊢
    go_enter Try.func35, Try.ntmps35
    go_wp2_with fail
    refine (C1.out _ H.out).mono ?_
    rintro e w1 ⟨r, rfl, rfl, hb1⟩
    have HB1 := hid hb1
    clear hb1
    go_wp2_with fail
    refine (C2.out _).mono ?_
    rintro e w2 ⟨a2, c2, rfl, h2, hb2⟩
    have H2 := hid h2
    have HB2 := hid (Below.on HB1.out hb2)
    clear h2 hb2
    go_wp2
    go_ret
    exact ⟨_, _, rfl, H2.out, HB2.out⟩
  · have e1 : decide (40 < (l.length : Int)) = false := decide_eq_false (by omega)
    rw [if_neg hg]
    go_enter Try.func35, Try.ntmps35
    go_wp2
    go_ret
    exact ⟨_, _, rfl, H.out, Below.refl _ _⟩

set_option maxRecDepth 100000 in
set_option maxHeartbeats 1000000 in
theorem dadded_any (a a' : Option Addr) (n c n' c' : Nat) (l m : List Rc) (w : World) (h : RdC w a n c l) (h' : RdC w a' n' c' m) (hr : Reg l) (hn : n ≤ 40) :
    Calls Try.prog 22 #[.slice a n c, .slice a' n' c'] w (Ret w (dfm l m)) := by
  obtain rfl := h.len
  have HL := hid h'.len
  have hs := h'.small
  have H := hid h
  have H' := hid h'
  have HA := hid (fun j => dfm_all hr hn (m.take j))
  clear h h' hr hn
  go_enter Try.func22, Try.ntmps22
  go_wp2
  go_loopw [0, 9] (fun s0 s9 wr => ∃ (j : Nat) (b : Option Addr) (d : Nat), s9 = .int .i64 j ∧ s0 = .slice b (dfm l (m.take j)).length d ∧ j ≤ n' ∧ RdC wr b (dfm l (m.take j)).length d (dfm l (m.take j)) ∧ RowKit.Below w.heap.size w wr) (fun _ s9 _ => n' - (numOf s9).toNat)
  case atStart => exact ⟨0, _, _, rfl, rfl, by omega, H.out, Below.refl _ _⟩
  case round =>
    obtain ⟨j, b, d, rfl, rfl, hj, h3, hb⟩ := hrel
    have H3 := hid h3
    have HB := hid hb
    clear h3 hb H
    by_cases hgo : j < n'
    · have e1 : decide ((j : Int) < n') = true := decide_eq_true (by omega)
      obtain ⟨b2, off, r, rfl, _, hr, ok, he⟩ := (H'.out.on HB.out).el hgo
      obtain ⟨_, c0, c1, c2, c3⟩ := he
      obtain ⟨hreg, hlen⟩ := HA.out j
      have HS := hid (dfm_snoc (l := l) hr)
      generalize dfm l (m.take j) = A0 at hreg hlen HS H3 ⊢
      have hlo := ofl_length r
      have CO := hid (fun u => of_any r ok u)
      have CU := hid (fun u a2 c2 (h1 : RdC u b A0.length d A0) (h2 : RdC u a2 (ofl r).length c2 (ofl r)) => union_any b a2 A0.length d (ofl r).length c2 A0 (ofl r) u h1 h2 (by omega))
      rw [unn_reg hreg (ofl_reg r)] at CU
      have CW := hid (fun u a2 c2 (h1 : RdC u a2 (mk or A0 (ofl r)).length c2 (mk or A0 (ofl r))) => dfew_any a2 _ c2 _ u h1 (dor hreg r).1)
      rw [← dput] at CW
      generalize ofl r = O at CO CU CW hlo
      generalize mk or A0 O = U at CU CW
      generalize dput A0 r = D at CW HS
      have HN := hid (below_new wr (ob r))
      rw [ob] at HN
      clear hr ok hreg hlen hlo
      go_wp2_with fail
      refine (CO.out _).mono ?_
      rintro e w1 ⟨a1, c1', rfl, h1, hb1⟩
      have H1 := hid h1
      replace HN := hid (Below.on HN.out hb1)
      clear h1 hb1
      go_wp2_with fail
      refine (CU.out _ _ _ (H3.out.on HN.out) H1.out).mono ?_
      rintro e w2 ⟨a2, c2', rfl, h2, hb2⟩
      have H2 := hid h2
      replace HN := hid (Below.on HN.out hb2)
      clear h2 hb2
      go_wp2_with fail
      refine (CW.out _ _ _ H2.out).mono ?_
      rintro e w3 ⟨a3, c3', rfl, h4, hb3⟩
      have H4 := hid h4
      replace HN := hid (Below.on HN.out hb3)
      clear h4 hb3
      go_wp2
      go_roundw
      case rel => exact ⟨j + 1, _, _, by go_num, by rw [HS.out], by omega, by rw [HS.out]; exact H4.out, Below.on HB.out HN.out⟩
      case measure => simp [numOf]; omega
    · have e1 : decide ((j : Int) < n') = false := decide_eq_false (by omega)
      have HE : Hid (m.take j = m) := List.take_of_length_le (by rw [HL.out]; omega)
      rw [HE.out] at H3 ⊢
      go_wp2
      go_ret
      exact ⟨_, _, rfl, H3.out, HB.out⟩

set_option maxRecDepth 100000 in
set_option maxHeartbeats 1000000 in
theorem dflat_any (a : Option Addr) (n c : Nat) (l : List Rc) (w : World) (h : RdC w a n c l) :
    Calls Try.prog 10 #[.slice a n c] w (Ret w (dfl l)) := by
  have C1 := hid (dadded_any none a 0 0 n c [] l w (RdC.nil w) h reg_nil (by decide))
  clear h
  rw [show dfm [] l = dfl l from rfl] at C1
  generalize dfl l = D at C1 ⊢
  go_enter Try.func10, Try.ntmps10
  go_wp2_with fail
  refine C1.out.mono ?_
  rintro e w1 ⟨a1, c1, rfl, h1, hb1⟩
  have H1 := hid h1
  have HB1 := hid hb1
  clear h1 hb1
  go_wp2
  go_ret
  exact ⟨_, _, rfl, H1.out, HB1.out⟩

set_option maxRecDepth 100000 in
set_option maxHeartbeats 1000000 in
theorem dmove_any (a : Option Addr) (n c : Nat) (l : List Rc) (x y : Int) (w : World) (h : RdC w a n c l) :
    Calls Try.prog 16 #[.slice a n c, .int .i64 x, .int .i64 y] w (Ret w (shf (dfl l) x y)) := by
  have C1 := hid (dflat_any a n c l w h)
  have C2 := hid (fun u a1 c1 (h1 : RdC u a1 (dfl l).length c1 (dfl l)) => shiftreg_any a1 _ c1 _ x y u h1 (by have := dfl_len l; omega))
  clear h
  generalize dfl l = D at C1 C2 ⊢
  generalize shf D x y = E at C2 ⊢
  go_enter Try.func16, Try.ntmps16
  go_wp2_with fail
  refine C1.out.mono ?_
  rintro e w1 ⟨a1, c1, rfl, h1, hb1⟩
  have H1 := hid h1
  have HB1 := hid hb1
  clear h1 hb1
  go_wp2_with fail
  refine (C2.out _ _ _ H1.out).mono ?_
  rintro e w2 ⟨a2, c2, rfl, h2, hb2⟩
  have H2 := hid h2
  have HB2 := hid (Below.on HB1.out hb2)
  clear h2 hb2
  go_wp2
  go_ret
  exact ⟨_, _, rfl, H2.out, HB2.out⟩

set_option maxRecDepth 100000 in
set_option maxHeartbeats 1000000 in
theorem dclip_any (a : Option Addr) (n c : Nat) (l : List Rc) (r : Rc) (ok : r.Ok) (w : World) (h : RdC w a n c l) :
    Calls Try.prog 14 #[.slice a n c, .agg #[.int .i64 r.x, .int .i64 r.y, .int .i64 r.w, .int .i64 r.h]] w (Ret w (mk and (dfl l) (ofl r))) := by
  have C1 := hid (fun u hu => dflat_any a n c l u hu)
  have C2 := hid (fun u => of_any r ok u)
  have C3 := hid (fun u a1 c1 a2 c2 (h1 : RdC u a1 (dfl l).length c1 (dfl l)) (h2 : RdC u a2 (ofl r).length c2 (ofl r)) => intersect_any a1 a2 _ c1 _ c2 _ _ u h1 h2 (by have := dfl_len l; have := ofl_length r; omega))
  rw [unn_reg (dfl_reg l) (ofl_reg r)] at C3
  generalize dfl l = D at C1 C3 ⊢
  generalize ofl r = O at C2 C3 ⊢
  generalize mk and D O = E at C3 ⊢
  have H0 := hid (h.on (below_new w (ob r)))
  have HX : Hid (Bx (w.alloc (ob r)) w.heap.size r) := bx_new w r
  have HB := hid (below_new w (ob r))
  clear h ok
  go_enter Try.func14, Try.ntmps14
  go_upto_region 1 with fail
  rw [← ob]
  generalize w.alloc (ob r) = u0 at H0 HX HB ⊢
  refine wp_region_held_drew (S := fun x => Below u0.heap.size u0 x) (by kernel_rfl) (Below.refl _ _).drew (fun hHeld => ?_)
  have hHeld : Below u0.heap.size u0 u0.drew := hHeld
  refine wpAnyH_take (i := 0) (v := ?_) rfl (by kernel_rfl) (by kernel_rfl) (by kernel_rfl) (fun _ _ _ h => h) (Or.inl ⟨by kernel_rfl, ?hy0⟩) (by assumption) ?_
  case hy0 => (intro w hSw; (try dsimp only at hSw); obtain ⟨t00, t01, t02, t03⟩ := (HX.out.on hSw).all; go_simp; try with_reducible rfl)
  try simp only [Act.put, List.getElem_toArray, List.getElem_cons_zero, List.setIfInBounds_toArray, List.set_cons_zero, List.set_cons_succ]
  refine wpAnyH_take (i := 2) (v := ?_) rfl (by kernel_rfl) (by kernel_rfl) (by kernel_rfl) (fun _ _ _ h => h) (Or.inl ⟨by kernel_rfl, ?hy2⟩) (by assumption) ?_
  case hy2 => (intro w hSw; (try dsimp only at hSw); obtain ⟨t00, t01, t02, t03⟩ := (HX.out.on hSw).all; go_simp; try with_reducible rfl)
  try simp only [Act.put, List.getElem_toArray, List.getElem_cons_zero, List.getElem_cons_succ, List.setIfInBounds_toArray, List.set_cons_zero, List.set_cons_succ]
  refine wpAnyH_ready (rs := [1]) (by kernel_rfl) (by simp) ?_
  refine AllReadyH.cons rfl (fun K hK => ?_) AllReadyH.nil
  go_simp
  go_wp2_with fail
  refine (C1.out _ (H0.out.on hHeld)).mono ?_
  rintro e u1 ⟨a1, c1, rfl, h1, hb1⟩
  have H1 := hid h1
  replace hHeld := Below.on hHeld hb1
  refine hK.out _ _ hHeld (fun _ => ?_)
  clear hK K hb1 h1
  refine wpAnyH_ready (rs := [3]) (by kernel_rfl) (by simp) ?_
  refine AllReadyH.cons rfl (fun K hK => ?_) AllReadyH.nil
  go_simp
  go_wp2_with fail
  refine (C2.out _).mono ?_
  rintro e u2 ⟨a2, c2, rfl, h2, hb2⟩
  have H2 := hid h2
  replace H1 := hid (H1.out.on hb2)
  replace hHeld := Below.on hHeld hb2
  refine hK.out _ _ hHeld (fun _ => ?_)
  clear hK K hb2 h2
  refine wpAnyH_ready (rs := [4]) (by kernel_rfl) (by simp) ?_
  refine AllReadyH.cons rfl (fun K hK => ?_) AllReadyH.nil
  go_simp
  go_wp2_with fail
  refine (C3.out _ _ _ _ _ H1.out H2.out).mono ?_
  rintro e u3 ⟨a3, c3, rfl, h3, hb3⟩
  have H3 := hid h3
  replace hHeld := Below.on hHeld hb3
  refine hK.out _ _ hHeld (fun _ => ?_)
  clear hK K hb3 h3
  refine wpAnyH_take (i := 5) (v := ?_) rfl (by kernel_rfl) (by kernel_rfl) (by kernel_rfl) (fun _ _ _ h => h) (Or.inl ⟨by kernel_rfl, ?hy5⟩) (by assumption) ?_
  case hy5 => (intro w hSw; (try dsimp only at hSw); obtain ⟨t00, t01, t02, t03⟩ := (HX.out.on hSw).all; go_simp; try with_reducible rfl)
  try simp only [Act.put, List.getElem_toArray, List.getElem_cons_zero, List.getElem_cons_succ, List.setIfInBounds_toArray, List.set_cons_zero, List.set_cons_succ]
  refine wpAnyH_done (by kernel_rfl) ?_ _
  go_wp2
  go_ret
  exact ⟨_, _, rfl, H3.out, Below.on HB.out hHeld⟩
set_option maxRecDepth 100000 in
set_option maxHeartbeats 1000000 in
theorem dadd_any (a : Option Addr) (n c : Nat) (l : List Rc) (r : Rc) (ok : r.Ok) (w : World) (h : RdC w a n c l) :
    Calls Try.prog 12 #[.slice a n c, .agg #[.int .i64 r.x, .int .i64 r.y, .int .i64 r.w, .int .i64 r.h]] w (Ret w (dput (dfl l) r)) := by
  have C1 := hid (fun u hu => dflat_any a n c l u hu)
  have C3 := hid (fun u a1 c1 a2 (h1 : RdC u a1 (dfl l).length c1 (dfl l)) (h2 : RdC u a2 1 1 [r]) => dadded_any a1 a2 _ c1 1 1 _ [r] u h1 h2 (dfl_reg l) (dfl_len l))
  rw [show dfm (dfl l) [r] = dput (dfl l) r from rfl] at C3
  generalize dfl l = D at C1 C3 ⊢
  generalize dput D r = E at C3 ⊢
  have H0 := hid (h.on (below_new w (ob r)))
  have HX : Hid (Bx (w.alloc (ob r)) w.heap.size r) := bx_new w r
  have HB := hid (below_new w (ob r))
  have OK := hid ok
  clear h ok
  go_enter Try.func12, Try.ntmps12
  go_upto_region 1 with fail
  rw [← ob]
  generalize w.alloc (ob r) = u0 at H0 HX HB ⊢
  refine wp_region_held_drew (S := fun x => Below u0.heap.size u0 x) (by kernel_rfl) (Below.refl _ _).drew (fun hHeld => ?_)
  have hHeld : Below u0.heap.size u0 u0.drew := hHeld
  refine wpAnyH_take (i := 0) (v := ?_) rfl (by kernel_rfl) (by kernel_rfl) (by kernel_rfl) (fun _ _ _ h => h) (Or.inl ⟨by kernel_rfl, ?hy0⟩) (by assumption) ?_
  case hy0 => (intro w hSw; (try dsimp only at hSw); obtain ⟨t00, t01, t02, t03⟩ := (HX.out.on hSw).all; go_simp; try with_reducible rfl)
  try simp only [Act.put, List.getElem_toArray, List.getElem_cons_zero, List.setIfInBounds_toArray, List.set_cons_zero, List.set_cons_succ]
  refine wpAnyH_take (i := 2) (v := ?_) rfl (by kernel_rfl) (by kernel_rfl) (by kernel_rfl) (fun _ _ _ h => h) (Or.inl ⟨by kernel_rfl, ?hy2⟩) (by assumption) ?_
  case hy2 => (intro w hSw; (try dsimp only at hSw); obtain ⟨t00, t01, t02, t03⟩ := (HX.out.on hSw).all; go_simp; try with_reducible rfl)
  try simp only [Act.put, List.getElem_toArray, List.getElem_cons_zero, List.getElem_cons_succ, List.setIfInBounds_toArray, List.set_cons_zero, List.set_cons_succ]
  refine wpAnyH_ready (rs := [1, 3]) (by kernel_rfl) (by simp) ?_
  refine AllReadyH.cons rfl (fun K hK => ?_) (AllReadyH.cons rfl (fun K hK => ?_) AllReadyH.nil)
  · go_simp
    go_wp2_with fail
    refine (C1.out _ (H0.out.on hHeld)).mono ?_
    rintro e u1 ⟨a1, c1, rfl, h1, hb1⟩
    have H1 := hid h1
    replace hHeld := Below.on hHeld hb1
    refine hK.out _ _ hHeld (fun _ => ?_)
    clear hK K hb1 h1
    refine wpAnyH_ready (rs := [3]) (by kernel_rfl) (by simp) ?_
    refine AllReadyH.cons rfl (fun K hK => ?_) AllReadyH.nil
    have hA := Below.on hHeld (below_new u1 (ob r))
    have h2 := rdc_lit u1 r OK.out
    rw [ob] at hA
    go_simp
    refine hK.out _ _ hA (fun _ => ?_)
    have H2 := hid h2
    replace H1 := hid (H1.out.on (below_new u1 (ob r)))
    rw [ob] at H1
    replace hHeld := hA
    clear hK K hA h2
    refine wpAnyH_ready (rs := [4]) (by kernel_rfl) (by simp) ?_
    refine AllReadyH.cons rfl (fun K hK => ?_) AllReadyH.nil
    go_simp
    go_wp2_with fail
    refine (C3.out _ _ _ _ H1.out H2.out).mono ?_
    rintro e u3 ⟨a3, c3, rfl, h3, hb3⟩
    have H3 := hid h3
    replace hHeld := Below.on hHeld hb3
    refine hK.out _ _ hHeld (fun _ => ?_)
    clear hK K hb3 h3
    refine wpAnyH_take (i := 5) (v := ?_) rfl (by kernel_rfl) (by kernel_rfl) (by kernel_rfl) (fun _ _ _ h => h) (Or.inl ⟨by kernel_rfl, ?hy5⟩) (by assumption) ?_
    case hy5 => (intro w hSw; (try dsimp only at hSw); obtain ⟨t00, t01, t02, t03⟩ := (HX.out.on hSw).all; go_simp; try with_reducible rfl)
    try simp only [Act.put, List.getElem_toArray, List.getElem_cons_zero, List.getElem_cons_succ, List.setIfInBounds_toArray, List.set_cons_zero, List.set_cons_succ]
    refine wpAnyH_done (by kernel_rfl) ?_ _
    go_wp2
    go_ret
    exact ⟨_, _, rfl, H3.out, Below.on HB.out hHeld⟩
  · have hA := Below.on hHeld (below_new u0.drew (ob r))
    have h2 := rdc_lit u0.drew r OK.out
    rw [ob] at hA
    go_simp
    refine hK.out _ _ hA (fun _ => ?_)
    have H2 := hid h2
    replace hHeld := hA
    clear hK K hA h2
    refine wpAnyH_ready (rs := [1]) (by kernel_rfl) (by simp) ?_
    refine AllReadyH.cons rfl (fun K hK => ?_) AllReadyH.nil
    go_simp
    go_wp2_with fail
    refine (C1.out _ (H0.out.on hHeld)).mono ?_
    rintro e u1 ⟨a1, c1, rfl, h1, hb1⟩
    have H1 := hid h1
    replace H2 := hid (H2.out.on hb1)
    replace hHeld := Below.on hHeld hb1
    refine hK.out _ _ hHeld (fun _ => ?_)
    clear hK K hb1 h1
    refine wpAnyH_ready (rs := [4]) (by kernel_rfl) (by simp) ?_
    refine AllReadyH.cons rfl (fun K hK => ?_) AllReadyH.nil
    go_simp
    go_wp2_with fail
    refine (C3.out _ _ _ _ H1.out H2.out).mono ?_
    rintro e u3 ⟨a3, c3, rfl, h3, hb3⟩
    have H3 := hid h3
    replace hHeld := Below.on hHeld hb3
    refine hK.out _ _ hHeld (fun _ => ?_)
    clear hK K hb3 h3
    refine wpAnyH_take (i := 5) (v := ?_) rfl (by kernel_rfl) (by kernel_rfl) (by kernel_rfl) (fun _ _ _ h => h) (Or.inl ⟨by kernel_rfl, ?hy5⟩) (by assumption) ?_
    case hy5 => (intro w hSw; (try dsimp only at hSw); obtain ⟨t00, t01, t02, t03⟩ := (HX.out.on hSw).all; go_simp; try with_reducible rfl)
    try simp only [Act.put, List.getElem_toArray, List.getElem_cons_zero, List.getElem_cons_succ, List.setIfInBounds_toArray, List.set_cons_zero, List.set_cons_succ]
    refine wpAnyH_done (by kernel_rfl) ?_ _
    go_wp2
    go_ret
    exact ⟨_, _, rfl, H3.out, Below.on HB.out hHeld⟩
end Go.Proofs.Ytklghdagehbfeaa
