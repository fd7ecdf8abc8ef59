/- The document's row. -/
import Derived.Test.YtlkodgmnhphfcaaRgfB
namespace Go.Proofs.Ytlkodgmnhphfcaa
open Go Go.RowKit

/-- Numbers that may be added and taken. -/
structure Sm (r : Rc) : Prop where
  x : -16777216 ≤ r.x ∧ r.x ≤ 16777216
  y : -16777216 ≤ r.y ∧ r.y ≤ 16777216
  w : -33554432 ≤ r.w ∧ r.w ≤ 33554432
  h : -33554432 ≤ r.h ∧ r.h ≤ 33554432
theorem Sm.ok {r : Rc} (h : Sm r) : r.Ok := by
  obtain ⟨h1, h2, h3, h4⟩ := h
  exact ⟨by omega, by omega, by omega, by omega⟩

theorem CI.set {u : World} {b o q k : Nat} {y : Int} (h : CI u b o y) (hn : b ≠ q ∨ o ≠ k) (v : Value) : CI (u.setCell ⟨q, k, none⟩ v) b o y :=
  ⟨by have := h.lt; simpa [World.setCell] using this, by
    rw [World.cell?_setCell_other _ _ _ _ (fun e => by
      have e1 := congrArg Addr.block e
      have e2 := congrArg Addr.off e
      simp only at e1 e2
      omega)]
    exact h.c⟩
theorem CI.drewN {u : World} {b o : Nat} {y : Int} (h : CI u b o y) (q : Nat) : CI (u.drewN q) b o y := ⟨h.lt, h.c⟩

theorem rccs_last (D : List Rc) (r : Rc) (z : Int) : (rccs (D ++ [r])).set (D.length * 4 + 2) (.int .i64 z) = rccs (D ++ [⟨r.x, r.y, z, r.h⟩]) := by
  rw [rccs_append, rccs_append, List.set_append_right _ _ (by rw [rccs_length]; omega), rccs_length]
  congr 1
  rw [show D.length * 4 + 2 - D.length * 4 = 2 by omega]
  rfl
theorem OwC.setW {w u : World} {g n c : Nat} {D : List Rc} {r : Rc} (h : OwC w u (.slice (some ⟨g, 0, none⟩) n c) (D ++ [r])) (hn : n = D.length + 1) (z : Int) : OwC w (u.setCell ⟨g, D.length * 4 + 2, none⟩ (.int .i64 z)) (.slice (some ⟨g, 0, none⟩) n c) (D ++ [⟨r.x, r.y, z, r.h⟩]) := by
  have h1 := h.own
  have e : (D ++ [r]).length = n := by simp [hn]
  rw [e] at h1
  have hg := (h1.lt g rfl).1
  have h2 := (h1.stored (D.length * 4 + 2) (.int .i64 z)).1
  rw [rccs_last] at h2
  refine ⟨?_, h.bel.setCell (p := ⟨g, _, none⟩) hg _⟩
  rw [show (D ++ [(⟨r.x, r.y, z, r.h⟩ : Rc)]).length = n by simp [hn]]
  exact h2
theorem OwC.form {w u : World} {v : Value} {l : List Rc} (h : OwC w u v l) (hl : l ≠ []) : ∃ g c, v = .slice (some ⟨g, 0, none⟩) l.length c := by
  rcases h.own.2 with ⟨rfl, h0⟩ | ⟨g, cap, cur, rfl, _⟩
  · exact absurd (List.eq_nil_of_length_eq_zero h0) hl
  · exact ⟨g, cap, rfl⟩
theorem OwC.small {w u : World} {g n c : Nat} {l : List Rc} (h : OwC w u (.slice (some ⟨g, 0, none⟩) n c) l) (hn : l.length = n) : n ≤ c ∧ c ≤ 9223372036854775807 := by
  have h1 := h.own
  rw [hn] at h1
  rcases h1.2 with ⟨e, _⟩ | ⟨g', cap, cur, e, _, _, h2, h3, _⟩
  · cases e
  · cases e
    simp only [maxLen] at h3
    omega

theorem rstep_nil (F : Int → Bool) (y h : Int) {x : Int} (hx : F x = true) (x' : Int) : rstep F y h [] x x' = [⟨x, y, x' - x, h⟩] := by rw [rstep, if_neg (by rw [hx]; decide)]; rfl
theorem rstep_eq (F : Int → Bool) (y h : Int) (D : List Rc) (r : Rc) {x : Int} (hx : F x = true) (he : r.x + r.w = x) (x' : Int) : rstep F y h (D ++ [r]) x x' = D ++ [⟨r.x, r.y, x' - r.x, r.h⟩] := by
  rw [rstep, if_neg (by rw [hx]; decide), List.getLast?_concat]
  simp only
  rw [if_pos he, List.dropLast_concat]
theorem rstep_ne (F : Int → Bool) (y h : Int) (D : List Rc) (r : Rc) {x : Int} (hx : F x = true) (he : r.x + r.w ≠ x) (x' : Int) : rstep F y h (D ++ [r]) x x' = (D ++ [r]) ++ [⟨x, y, x' - x, h⟩] := by
  rw [rstep, if_neg (by rw [hx]; decide), List.getLast?_concat]
  simp only
  rw [if_neg he]

set_option maxRecDepth 100000 in
set_option maxHeartbeats 1000000 in
theorem rrow_any (a a' ax : Option Addr) (n c n' c' N cx : Nat) (l m : List Rc) (xs : List Int) (y y1 how : Int) (w : World) (h : RdC w a n c l) (h' : RdC w a' n' c' m) (hx : RdJ w ax N cx xs) (hxs : ∀ x ∈ xs, -16777216 ≤ x ∧ x ≤ 16777216) (hy : -16777216 ≤ y ∧ y ≤ 16777216) (hy1 : -16777216 ≤ y1 ∧ y1 ≤ 16777216) (hN : N ≤ 8192) :
    Calls Try.prog 37 #[.slice a n c, .slice a' n' c', .slice ax N cx, .int .i64 y, .int .i64 y1, .int .i64 how] w fun e w' => ∃ v, e = .returned v ∧ OwC w w' v (rgo (fun x => fH how (pt l x y) (pt m x y)) y (y1 - y) [] xs) ∧ ∀ r ∈ rgo (fun x => fH how (pt l x y) (pt m x y)) y (y1 - y) [] xs, Sm r := by
  have H := hid h
  have H' := hid h'
  have HX := hid hx
  have HXS := hid hxs
  have HL := hid hx.len
  have hs := hx.small
  obtain ⟨i0, hi, hz0, hz1, hz2⟩ := info3 infoC
  obtain ⟨F, hF⟩ : ∃ F : Int → Bool, F = fun x => fH how (pt l x y) (pt m x y) := ⟨_, rfl⟩
  have HF := hid hF
  rw [← hF]
  obtain ⟨T, hT⟩ : ∃ T, T = rgo F y (y1 - y) [] xs := ⟨_, rfl⟩
  have HT := hid hT
  rw [← hT]
  have f9 : IntKind.i64.wrap (y1 - y) = y1 - y := by rw [IntKind.wrap_i64]; omega
  clear h h' hx hxs hF hT
  go_enter Try.func37, Try.ntmps37
  go_wp2
  go_loopw [13, 14] (fun s13 s14 wr => ∃ (i : Nat) (L : List Rc), s14 = .int .i64 i ∧ i ≤ N ∧ L.length ≤ i ∧ rgo F y (y1 - y) L (xs.drop i) = T ∧ (∀ r ∈ L, Sm r) ∧ OwC w wr s13 L) (fun _ s14 _ => N - (numOf s14).toNat)
  case atStart => exact ⟨0, [], rfl, by omega, by simp, HT.out.symm, by simp, OwC.nil w⟩
  case round =>
    obtain ⟨i, L, rfl, hiN, hLi, hq, hS, hO⟩ := hrel
    have HQ := hid hq
    have HS := hid hS
    have HO := hid hO
    clear hq hS hO
    by_cases hgo : i + 1 < N
    · have e1 : decide ((i : Int) + 1 < N) = true := decide_eq_true (by omega)
      have e2 : (i : Int) < N := by omega
      have e3 : (i : Int) + 1 < N := by omega
      have e4 : (0 : Int) ≤ (i : Int) + 1 := by omega
      obtain ⟨bx, ox, rfl, hbx, hcx⟩ := HX.out.pl (by omega)
      obtain ⟨x, hxi⟩ : ∃ x, xs[i]? = some x := ⟨_, List.getElem?_eq_getElem (by rw [HL.out]; omega)⟩
      obtain ⟨x', hxi'⟩ : ∃ x', xs[i + 1]? = some x' := ⟨_, List.getElem?_eq_getElem (by rw [HL.out]; omega)⟩
      have HC0 : Hid (CI w bx (ox + i) x) := ⟨hbx, hcx i x hxi⟩
      have HC1 : Hid (CI w bx (ox + (i + 1)) x') := ⟨hbx, hcx (i + 1) x' hxi'⟩
      have hxr := HXS.out x (List.mem_of_getElem? hxi)
      have hxr' := HXS.out x' (List.mem_of_getElem? hxi')
      have HST : Hid (rgo F y (y1 - y) (rstep F y (y1 - y) L x x') (xs.drop (i + 1)) = T) := by
        have := HQ.out
        rw [drop_at hxi, drop_at hxi', rgo, ← drop_at hxi'] at this
        exact this
      have CI0 := hid (fun u hu hu' => rin_any a a' n c n' c' l m x y how (by omega) (by omega) u hu hu')
      have HFx : Hid (fH how (pt l x y) (pt m x y) = F x) := by rw [HF.out]; rfl
      rw [HFx.out] at CI0
      have c0 := (HC0.out.on HO.out.bel).c
      have f10 : IntKind.i64.wrap ((i : Int) + 1) = (i : Int) + 1 := by rw [IntKind.wrap_i64]; omega
      have f11 : IntKind.i64.wrap (x' - x) = x' - x := by rw [IntKind.wrap_i64]; omega
      clear hcx hxi hxi' HFx HF
      cases hFx : F x
      · rw [hFx] at CI0
        have HN := hid HST.out
        rw [rstep_no hFx] at HN
        go_wp2_with fail
        refine (CI0.out _ (H.out.on HO.out.bel) (H'.out.on HO.out.bel)).mono ?_
        rintro e w2 ⟨rfl, hb2⟩
        have HO2 := hid (HO.out.on hb2)
        clear hb2 CI0 HO
        go_wp2
        go_roundw
        case rel => exact ⟨i + 1, L, by go_num, by omega, by omega, HN.out, HS.out, HO2.out⟩
        case measure => simp [numOf]; omega
      · rw [hFx] at CI0
        rcases List.eq_nil_or_concat L with rfl | ⟨D, r, hDr⟩
        · have HN := hid HST.out
          rw [rstep_nil F y (y1 - y) hFx] at HN
          obtain ⟨av, cv, hv, hrv⟩ := rdc_of_owns HO.out.own (by simp)
          subst hv
          clear hrv
          go_wp2_with fail
          refine (CI0.out _ (H.out.on HO.out.bel) (H'.out.on HO.out.bel)).mono ?_
          rintro e w2 ⟨rfl, hb2⟩
          have HO2 := hid (HO.out.on hb2)
          clear hb2 CI0 HO c0
          go_upto_region 7 with fail
          go_quiet (fail)
          have HO3 := hid (HO2.out.on (below_drewN (Below.refl w2.heap.size w2) nq))
          generalize w2.drewN nq = w4 at HO3 ⊢
          clear HO2
          go_upto_region 9 with fail
          have hSD : CI w4.drew bx (ox + i) x ∧ CI w4.drew bx (ox + (i + 1)) x' := ⟨⟨(HC0.out.on HO3.out.bel).lt, (HC0.out.on HO3.out.bel).c⟩, ⟨(HC1.out.on HO3.out.bel).lt, (HC1.out.on HO3.out.bel).c⟩⟩
          have HSR := hid (srcR w4.drew ⟨x, y, x' - x, y1 - y⟩)
          have HOA := hid (HO3.out.on (u' := w4.drew.alloc (.cells #[.int .i64 x, .int .i64 y, .int .i64 (x' - x), .int .i64 (y1 - y)] 36)) ((Below.refl _ _).drew.alloc (Nat.le_refl _) _))
          have hSA : CI (w4.drew.alloc (.cells #[.int .i64 x, .int .i64 y, .int .i64 (x' - x), .int .i64 (y1 - y)] 36)) bx (ox + i) x ∧ CI (w4.drew.alloc (.cells #[.int .i64 x, .int .i64 y, .int .i64 (x' - x), .int .i64 (y1 - y)] 36)) bx (ox + (i + 1)) x' := ⟨hSD.1.on (below_new _ _), hSD.2.on (below_new _ _)⟩
          have hLL : (([] : List Rc)).length ≤ 8192 := by omega
          clear HO3
          have hHeld := hSD
          refine wp_region_held_drew (S := fun q => CI q bx (ox + i) x ∧ CI q bx (ox + (i + 1)) x') (by kernel_rfl) hHeld (fun _ => ?_)
          refine wpAnyH_take (i := 0) (v := ?_) rfl (by kernel_rfl) (by kernel_rfl) (by kernel_rfl) (fun _ _ _ h => h) (Or.inl ⟨by kernel_rfl, ?hy0⟩) (by assumption) ?_
          case hy0 => (intro w hSw; (try dsimp only at hSw); obtain ⟨t00, t01, t02, t03⟩ := (hSw.1).all; obtain ⟨t10, t11, t12, t13⟩ := (hSw.2).all; go_simp; try with_reducible rfl)
          try simp only [Act.put, List.getElem_toArray, List.getElem_cons_zero, List.setIfInBounds_toArray, List.set_cons_zero, List.set_cons_succ]
          refine wpAnyH_take (i := 1) (v := ?_) rfl (by kernel_rfl) (by kernel_rfl) (by kernel_rfl) (fun _ _ _ h => h) (Or.inl ⟨by kernel_rfl, ?hy1⟩) (by assumption) ?_
          case hy1 => (intro w hSw; (try dsimp only at hSw); obtain ⟨t00, t01, t02, t03⟩ := (hSw.1).all; obtain ⟨t10, t11, t12, t13⟩ := (hSw.2).all; go_simp; try with_reducible rfl)
          try simp only [Act.put, List.getElem_toArray, List.getElem_cons_zero, List.getElem_cons_succ, List.setIfInBounds_toArray, List.set_cons_zero, List.set_cons_succ]
          refine wpAnyH_take (i := 2) (v := ?_) rfl (by kernel_rfl) (by kernel_rfl) (by kernel_rfl) (fun _ _ _ h => h) (Or.inl ⟨by kernel_rfl, ?hy2⟩) (by assumption) ?_
          case hy2 => (intro w hSw; (try dsimp only at hSw); obtain ⟨t00, t01, t02, t03⟩ := (hSw.1).all; obtain ⟨t10, t11, t12, t13⟩ := (hSw.2).all; go_simp; try with_reducible rfl)
          try simp only [Act.put, List.getElem_toArray, List.getElem_cons_zero, List.getElem_cons_succ, List.setIfInBounds_toArray, List.set_cons_zero, List.set_cons_succ]
          refine wpAnyH_take (i := 3) (v := ?_) rfl (by kernel_rfl) (by kernel_rfl) (by kernel_rfl) (fun _ _ _ h => h) (Or.inl ⟨by kernel_rfl, ?hy3⟩) (by assumption) ?_
          case hy3 => (intro w hSw; (try dsimp only at hSw); obtain ⟨t00, t01, t02, t03⟩ := (hSw.1).all; obtain ⟨t10, t11, t12, t13⟩ := (hSw.2).all; go_simp; try with_reducible rfl)
          try simp only [Act.put, List.getElem_toArray, List.getElem_cons_zero, List.getElem_cons_succ, List.setIfInBounds_toArray, List.set_cons_zero, List.set_cons_succ]
          refine wpAnyH_take (i := 4) (v := ?_) rfl (by kernel_rfl) (by kernel_rfl) (by kernel_rfl) (fun _ _ _ h => h) (Or.inl ⟨by kernel_rfl, ?hy4⟩) (by assumption) ?_
          case hy4 => (intro w hSw; (try dsimp only at hSw); obtain ⟨t00, t01, t02, t03⟩ := (hSw.1).all; obtain ⟨t10, t11, t12, t13⟩ := (hSw.2).all; go_simp; try with_reducible rfl)
          try simp only [Act.put, List.getElem_toArray, List.getElem_cons_zero, List.getElem_cons_succ, List.setIfInBounds_toArray, List.set_cons_zero, List.set_cons_succ]
          refine wpAnyH_take (i := 5) (v := ?_) rfl (by kernel_rfl) (by kernel_rfl) (by kernel_rfl) (fun _ _ _ h => h) (Or.inl ⟨by kernel_rfl, ?hy5⟩) (by assumption) ?_
          case hy5 => (intro w hSw; (try dsimp only at hSw); obtain ⟨t00, t01, t02, t03⟩ := (hSw.1).all; obtain ⟨t10, t11, t12, t13⟩ := (hSw.2).all; go_simp; try with_reducible rfl)
          try simp only [Act.put, List.getElem_toArray, List.getElem_cons_zero, List.getElem_cons_succ, List.setIfInBounds_toArray, List.set_cons_zero, List.set_cons_succ]
          refine wpAnyH_take (i := 6) (v := ?_) rfl (by kernel_rfl) (by kernel_rfl) (by kernel_rfl) (fun _ _ _ h => h) (Or.inl ⟨by kernel_rfl, ?hy6⟩) (by assumption) ?_
          case hy6 => (intro w hSw; (try dsimp only at hSw); obtain ⟨t00, t01, t02, t03⟩ := (hSw.1).all; obtain ⟨t10, t11, t12, t13⟩ := (hSw.2).all; go_simp; try with_reducible rfl)
          try simp only [Act.put, List.getElem_toArray, List.getElem_cons_zero, List.getElem_cons_succ, List.setIfInBounds_toArray, List.set_cons_zero, List.set_cons_succ]
          refine wpAnyH_take (i := 7) (v := ?_) rfl (by kernel_rfl) (by kernel_rfl) (by kernel_rfl) (fun _ _ _ h => h) (Or.inl ⟨by kernel_rfl, ?hy7⟩) (by assumption) ?_
          case hy7 => (intro w hSw; (try dsimp only at hSw); obtain ⟨t00, t01, t02, t03⟩ := (hSw.1).all; obtain ⟨t10, t11, t12, t13⟩ := (hSw.2).all; go_simp; try with_reducible rfl)
          try simp only [Act.put, List.getElem_toArray, List.getElem_cons_zero, List.getElem_cons_succ, List.setIfInBounds_toArray, List.set_cons_zero, List.set_cons_succ]
          refine wpAnyH_take (i := 8) (v := ?_) rfl (by kernel_rfl) (by kernel_rfl) (by kernel_rfl) (fun _ _ _ h => h) (Or.inl ⟨by kernel_rfl, ?hy8⟩) (by assumption) ?_
          case hy8 => (intro w hSw; (try dsimp only at hSw); obtain ⟨t00, t01, t02, t03⟩ := (hSw.1).all; obtain ⟨t10, t11, t12, t13⟩ := (hSw.2).all; go_simp; try with_reducible rfl)
          try simp only [Act.put, List.getElem_toArray, List.getElem_cons_zero, List.getElem_cons_succ, List.setIfInBounds_toArray, List.set_cons_zero, List.set_cons_succ]
          refine wpAnyH_take (i := 9) (v := ?_) rfl (by kernel_rfl) (by kernel_rfl) (by kernel_rfl) (fun _ _ _ h => h) (Or.inl ⟨by kernel_rfl, ?hy9⟩) (by assumption) ?_
          case hy9 => (intro w hSw; (try dsimp only at hSw); obtain ⟨t00, t01, t02, t03⟩ := (hSw.1).all; obtain ⟨t10, t11, t12, t13⟩ := (hSw.2).all; go_simp; try with_reducible rfl)
          try simp only [Act.put, List.getElem_toArray, List.getElem_cons_zero, List.getElem_cons_succ, List.setIfInBounds_toArray, List.set_cons_zero, List.set_cons_succ]
          refine wpAnyH_take (i := 10) (v := ?_) rfl (by kernel_rfl) (by kernel_rfl) (by kernel_rfl) (fun _ _ _ h => h) (Or.inl ⟨by kernel_rfl, ?hy10⟩) (by assumption) ?_
          case hy10 => (intro w hSw; (try dsimp only at hSw); obtain ⟨t00, t01, t02, t03⟩ := (hSw.1).all; obtain ⟨t10, t11, t12, t13⟩ := (hSw.2).all; go_simp; try with_reducible rfl)
          try simp only [Act.put, List.getElem_toArray, List.getElem_cons_zero, List.getElem_cons_succ, List.setIfInBounds_toArray, List.set_cons_zero, List.set_cons_succ]
          refine wpAnyH_take (i := 11) (v := ?_) rfl (by kernel_rfl) (by kernel_rfl) (by kernel_rfl) (fun _ _ _ h => h) (Or.inl ⟨by kernel_rfl, ?hy11⟩) (by assumption) ?_
          case hy11 => (intro w hSw; (try dsimp only at hSw); obtain ⟨t00, t01, t02, t03⟩ := (hSw.1).all; obtain ⟨t10, t11, t12, t13⟩ := (hSw.2).all; go_simp; try with_reducible rfl)
          try simp only [Act.put, List.getElem_toArray, List.getElem_cons_zero, List.getElem_cons_succ, List.setIfInBounds_toArray, List.set_cons_zero, List.set_cons_succ]
          refine wpAnyH_take (i := 12) (v := ?_) rfl (by kernel_rfl) (by kernel_rfl) (by kernel_rfl) (fun _ _ _ h => h) (Or.inl ⟨by kernel_rfl, ?hy12⟩) (by assumption) ?_
          case hy12 => (intro w hSw; (try dsimp only at hSw); obtain ⟨t00, t01, t02, t03⟩ := (hSw.1).all; obtain ⟨t10, t11, t12, t13⟩ := (hSw.2).all; go_simp; try with_reducible rfl)
          try simp only [Act.put, List.getElem_toArray, List.getElem_cons_zero, List.getElem_cons_succ, List.setIfInBounds_toArray, List.set_cons_zero, List.set_cons_succ]
          refine wpAnyH_take (i := 13) (v := ?_) rfl (by kernel_rfl) (by kernel_rfl) (by kernel_rfl) (fun _ _ _ h => h) (Or.inl ⟨by kernel_rfl, ?hy13⟩) (by assumption) ?_
          case hy13 => (intro w hSw; (try dsimp only at hSw); obtain ⟨t00, t01, t02, t03⟩ := (hSw.1).all; obtain ⟨t10, t11, t12, t13⟩ := (hSw.2).all; go_simp; try with_reducible rfl)
          try simp only [Act.put, List.getElem_toArray, List.getElem_cons_zero, List.getElem_cons_succ, List.setIfInBounds_toArray, List.set_cons_zero, List.set_cons_succ]
          refine wpAnyH_take (i := 14) (v := ?_) rfl (by kernel_rfl) (by kernel_rfl) (by kernel_rfl) (fun _ _ _ h => h) (Or.inl ⟨by kernel_rfl, ?hy14⟩) (by assumption) ?_
          case hy14 => (intro w hSw; (try dsimp only at hSw); obtain ⟨t00, t01, t02, t03⟩ := (hSw.1).all; obtain ⟨t10, t11, t12, t13⟩ := (hSw.2).all; go_simp; try with_reducible rfl)
          try simp only [Act.put, List.getElem_toArray, List.getElem_cons_zero, List.getElem_cons_succ, List.setIfInBounds_toArray, List.set_cons_zero, List.set_cons_succ]
          refine wpAnyH_take (i := 15) (v := ?_) rfl (by kernel_rfl) (by kernel_rfl) (by kernel_rfl) (fun _ _ _ h => h) (Or.inl ⟨by kernel_rfl, ?hy15⟩) (by assumption) ?_
          case hy15 => (intro w hSw; (try dsimp only at hSw); obtain ⟨t00, t01, t02, t03⟩ := (hSw.1).all; obtain ⟨t10, t11, t12, t13⟩ := (hSw.2).all; go_simp; try with_reducible rfl)
          try simp only [Act.put, List.getElem_toArray, List.getElem_cons_zero, List.getElem_cons_succ, List.setIfInBounds_toArray, List.set_cons_zero, List.set_cons_succ]
          refine wpAnyH_take (i := 16) (v := ?_) rfl (by kernel_rfl) (by kernel_rfl) (by kernel_rfl) (fun _ _ _ h => h) (Or.inl ⟨by kernel_rfl, ?hy16⟩) (by assumption) ?_
          case hy16 => (intro w hSw; (try dsimp only at hSw); obtain ⟨t00, t01, t02, t03⟩ := (hSw.1).all; obtain ⟨t10, t11, t12, t13⟩ := (hSw.2).all; go_simp; try with_reducible rfl)
          try simp only [Act.put, List.getElem_toArray, List.getElem_cons_zero, List.getElem_cons_succ, List.setIfInBounds_toArray, List.set_cons_zero, List.set_cons_succ]
          refine wpAnyH_take (i := 17) (v := ?_) rfl (by kernel_rfl) (by kernel_rfl) (by kernel_rfl) (fun _ _ _ h => h) (Or.inl ⟨by kernel_rfl, ?hy17⟩) (by assumption) ?_
          case hy17 => (intro w hSw; (try dsimp only at hSw); obtain ⟨t00, t01, t02, t03⟩ := (hSw.1).all; obtain ⟨t10, t11, t12, t13⟩ := (hSw.2).all; go_simp; try with_reducible rfl)
          try simp only [Act.put, List.getElem_toArray, List.getElem_cons_zero, List.getElem_cons_succ, List.setIfInBounds_toArray, List.set_cons_zero, List.set_cons_succ]
          refine wpAnyH_take (i := 18) (v := ?_) rfl (by kernel_rfl) (by kernel_rfl) (by kernel_rfl) (fun _ _ _ h => h) (Or.inl ⟨by kernel_rfl, ?hy18⟩) (by assumption) ?_
          case hy18 => (intro w hSw; (try dsimp only at hSw); obtain ⟨t00, t01, t02, t03⟩ := (hSw.1).all; obtain ⟨t10, t11, t12, t13⟩ := (hSw.2).all; go_simp; try with_reducible rfl)
          try simp only [Act.put, List.getElem_toArray, List.getElem_cons_zero, List.getElem_cons_succ, List.setIfInBounds_toArray, List.set_cons_zero, List.set_cons_succ]
          refine wpAnyH_take (i := 19) (v := ?_) rfl (by kernel_rfl) (by kernel_rfl) (by kernel_rfl) (fun _ _ _ h => h) (Or.inl ⟨by kernel_rfl, ?hy19⟩) (by assumption) ?_
          case hy19 => (intro w hSw; (try dsimp only at hSw); obtain ⟨t00, t01, t02, t03⟩ := (hSw.1).all; obtain ⟨t10, t11, t12, t13⟩ := (hSw.2).all; go_simp; try with_reducible rfl)
          try simp only [Act.put, List.getElem_toArray, List.getElem_cons_zero, List.getElem_cons_succ, List.setIfInBounds_toArray, List.set_cons_zero, List.set_cons_succ]
          refine wpAnyH_ready (rs := [20]) (by kernel_rfl) (by simp) ?_
          refine AllReadyH.cons rfl (fun K hK => ?_) AllReadyH.nil
          go_simp
          refine hK.out _ _ hSA (fun _ => ?_)
          clear hK K hHeld hSD
          have hHeld := hSA
          refine wpAnyH_ready (rs := [21]) (by kernel_rfl) (by simp) ?_
          refine AllReadyH.cons rfl (fun K hK => ?_) AllReadyH.nil
          refine step_append_own_src rfl (.tmp 74) (.tmp 94) 30 30 rfl w.heap.size 36 i0 (.agg #[.int .i64 0, .int .i64 0, .int .i64 0, .int .i64 0]) 4 32 Try.underlying30 hi hz0 hz1 hz2 rfl _ _ _ (by simp [Act.eval]) HOA.out.own _ 1 _ (by simp [Act.eval]) HSR.out (by simp only [maxLen]; omega) (fits32 (by omega)) HOA.out.size ?_
          intro v3 w3 o3 g3
          have HO5 := hid (HOA.out.grown (m := [⟨x, y, x' - x, y1 - y⟩]) o3 g3)
          clear o3 g3
          have hS5 : CI w3 bx (ox + i) x ∧ CI w3 bx (ox + (i + 1)) x' := ⟨HC0.out.on HO5.out.bel, HC1.out.on HO5.out.bel⟩
          refine hK.out _ _ hS5 (fun _ => ?_)
          clear hK K hHeld
          have hHeld := hS5
          refine wpAnyH_take (i := 22) (v := ?_) rfl (by kernel_rfl) (by kernel_rfl) (by kernel_rfl) (fun _ _ _ h => h) (Or.inl ⟨by kernel_rfl, ?hy22⟩) (by assumption) ?_
          case hy22 => (intro w hSw; (try dsimp only at hSw); obtain ⟨t00, t01, t02, t03⟩ := (hSw.1).all; obtain ⟨t10, t11, t12, t13⟩ := (hSw.2).all; go_simp; try with_reducible rfl)
          try simp only [Act.put, List.getElem_toArray, List.getElem_cons_zero, List.getElem_cons_succ, List.setIfInBounds_toArray, List.set_cons_zero, List.set_cons_succ]
          refine wpAnyH_done (by kernel_rfl) ?_ _
          clear hHeld hSA HOA HSR
          go_wp2
          go_roundw
          case rel => exact ⟨i + 1, ([] : List Rc) ++ [⟨x, y, x' - x, y1 - y⟩], by go_num, by omega, by rw [List.length_append, List.length_singleton]; omega, HN.out, fun q hq => by
            rcases List.mem_append.1 hq with hq | hq
            · exact HS.out q hq
            · simp only [List.mem_singleton] at hq
              subst hq
              exact ⟨hxr, hy, by simp only; omega, by simp only; omega⟩, HO5.out⟩
          case measure => simp [numOf]; omega
        · rw [List.concat_eq_append] at hDr
          subst hDr
          obtain ⟨g, cv, hv⟩ := HO.out.form (by simp)
          subst hv
          have hd1 : (D ++ [r]).length = D.length + 1 := by simp
          have hsm := HS.out r (by simp)
          obtain ⟨sx, sy, sw, sh2⟩ := hsm
          have g1 : IntKind.i64.wrap (r.x + r.w) = r.x + r.w := by rw [IntKind.wrap_i64]; omega
          rw [hd1] at HO ⊢
          obtain ⟨d, hd⟩ : ∃ d, d = D.length := ⟨_, rfl⟩
          have HDd := hid hd
          rw [← hd] at HO ⊢ hd1
          have g2 : IntKind.i64.wrap (d : Int) = (d : Int) := by rw [IntKind.wrap_i64]; omega
          have g4 : (0 : Int) ≤ d := by omega
          have g5 : (d : Int) < (d : Int) + 1 := by omega
          have g6 : decide (0 < d + 1) = true := decide_eq_true (by omega)
          have g7 : (d : Int).toNat = d := by omega
          go_wp2_with fail
          refine (CI0.out _ (H.out.on HO.out.bel) (H'.out.on HO.out.bel)).mono ?_
          rintro e w2 ⟨rfl, hb2⟩
          have hO2 := HO.out.on hb2
          obtain ⟨gl, gb, gel⟩ := hO2.el hd1
          obtain ⟨_, d0, d1, d2, d3⟩ := gel d r (by rw [HDd.out]; simp)
          have HO2 := hid hO2
          have cc0 := (HC0.out.on hO2.bel).c
          clear hb2 CI0 HO c0 hO2 gel hd
          go_upto_region 7 with fail
          cases hq7 : (r.x + r.w == x)
          · have HN := hid HST.out
            rw [rstep_ne F y (y1 - y) D r hFx (by simpa using hq7)] at HN
            go_quiet (fail)
            have HO3 := hid (HO2.out.on (below_drewN (Below.refl w2.heap.size w2) nq))
            generalize w2.drewN nq = w4 at HO3 ⊢
            clear HO2 cc0 d0 d1 d2 d3
            go_upto_region 9 with fail
            rw [← hd1] at HO3 ⊢
            have hSD : CI w4.drew bx (ox + i) x ∧ CI w4.drew bx (ox + (i + 1)) x' := ⟨⟨(HC0.out.on HO3.out.bel).lt, (HC0.out.on HO3.out.bel).c⟩, ⟨(HC1.out.on HO3.out.bel).lt, (HC1.out.on HO3.out.bel).c⟩⟩
            have HSR := hid (srcR w4.drew ⟨x, y, x' - x, y1 - y⟩)
            have HOA := hid (HO3.out.on (u' := w4.drew.alloc (.cells #[.int .i64 x, .int .i64 y, .int .i64 (x' - x), .int .i64 (y1 - y)] 36)) ((Below.refl _ _).drew.alloc (Nat.le_refl _) _))
            have hSA : CI (w4.drew.alloc (.cells #[.int .i64 x, .int .i64 y, .int .i64 (x' - x), .int .i64 (y1 - y)] 36)) bx (ox + i) x ∧ CI (w4.drew.alloc (.cells #[.int .i64 x, .int .i64 y, .int .i64 (x' - x), .int .i64 (y1 - y)] 36)) bx (ox + (i + 1)) x' := ⟨hSD.1.on (below_new _ _), hSD.2.on (below_new _ _)⟩
            have hLL : (D ++ [r]).length ≤ 8192 := by omega
            clear HO3
            have hHeld := hSD
            refine wp_region_held_drew (S := fun q => CI q bx (ox + i) x ∧ CI q bx (ox + (i + 1)) x') (by kernel_rfl) hHeld (fun _ => ?_)
            refine wpAnyH_take (i := 0) (v := ?_) rfl (by kernel_rfl) (by kernel_rfl) (by kernel_rfl) (fun _ _ _ h => h) (Or.inl ⟨by kernel_rfl, ?hy0⟩) (by assumption) ?_
            case hy0 => (intro w hSw; (try dsimp only at hSw); obtain ⟨t00, t01, t02, t03⟩ := (hSw.1).all; obtain ⟨t10, t11, t12, t13⟩ := (hSw.2).all; go_simp; try with_reducible rfl)
            try simp only [Act.put, List.getElem_toArray, List.getElem_cons_zero, List.setIfInBounds_toArray, List.set_cons_zero, List.set_cons_succ]
            refine wpAnyH_take (i := 1) (v := ?_) rfl (by kernel_rfl) (by kernel_rfl) (by kernel_rfl) (fun _ _ _ h => h) (Or.inl ⟨by kernel_rfl, ?hy1⟩) (by assumption) ?_
            case hy1 => (intro w hSw; (try dsimp only at hSw); obtain ⟨t00, t01, t02, t03⟩ := (hSw.1).all; obtain ⟨t10, t11, t12, t13⟩ := (hSw.2).all; go_simp; try with_reducible rfl)
            try simp only [Act.put, List.getElem_toArray, List.getElem_cons_zero, List.getElem_cons_succ, List.setIfInBounds_toArray, List.set_cons_zero, List.set_cons_succ]
            refine wpAnyH_take (i := 2) (v := ?_) rfl (by kernel_rfl) (by kernel_rfl) (by kernel_rfl) (fun _ _ _ h => h) (Or.inl ⟨by kernel_rfl, ?hy2⟩) (by assumption) ?_
            case hy2 => (intro w hSw; (try dsimp only at hSw); obtain ⟨t00, t01, t02, t03⟩ := (hSw.1).all; obtain ⟨t10, t11, t12, t13⟩ := (hSw.2).all; go_simp; try with_reducible rfl)
            try simp only [Act.put, List.getElem_toArray, List.getElem_cons_zero, List.getElem_cons_succ, List.setIfInBounds_toArray, List.set_cons_zero, List.set_cons_succ]
            refine wpAnyH_take (i := 3) (v := ?_) rfl (by kernel_rfl) (by kernel_rfl) (by kernel_rfl) (fun _ _ _ h => h) (Or.inl ⟨by kernel_rfl, ?hy3⟩) (by assumption) ?_
            case hy3 => (intro w hSw; (try dsimp only at hSw); obtain ⟨t00, t01, t02, t03⟩ := (hSw.1).all; obtain ⟨t10, t11, t12, t13⟩ := (hSw.2).all; go_simp; try with_reducible rfl)
            try simp only [Act.put, List.getElem_toArray, List.getElem_cons_zero, List.getElem_cons_succ, List.setIfInBounds_toArray, List.set_cons_zero, List.set_cons_succ]
            refine wpAnyH_take (i := 4) (v := ?_) rfl (by kernel_rfl) (by kernel_rfl) (by kernel_rfl) (fun _ _ _ h => h) (Or.inl ⟨by kernel_rfl, ?hy4⟩) (by assumption) ?_
            case hy4 => (intro w hSw; (try dsimp only at hSw); obtain ⟨t00, t01, t02, t03⟩ := (hSw.1).all; obtain ⟨t10, t11, t12, t13⟩ := (hSw.2).all; go_simp; try with_reducible rfl)
            try simp only [Act.put, List.getElem_toArray, List.getElem_cons_zero, List.getElem_cons_succ, List.setIfInBounds_toArray, List.set_cons_zero, List.set_cons_succ]
            refine wpAnyH_take (i := 5) (v := ?_) rfl (by kernel_rfl) (by kernel_rfl) (by kernel_rfl) (fun _ _ _ h => h) (Or.inl ⟨by kernel_rfl, ?hy5⟩) (by assumption) ?_
            case hy5 => (intro w hSw; (try dsimp only at hSw); obtain ⟨t00, t01, t02, t03⟩ := (hSw.1).all; obtain ⟨t10, t11, t12, t13⟩ := (hSw.2).all; go_simp; try with_reducible rfl)
            try simp only [Act.put, List.getElem_toArray, List.getElem_cons_zero, List.getElem_cons_succ, List.setIfInBounds_toArray, List.set_cons_zero, List.set_cons_succ]
            refine wpAnyH_take (i := 6) (v := ?_) rfl (by kernel_rfl) (by kernel_rfl) (by kernel_rfl) (fun _ _ _ h => h) (Or.inl ⟨by kernel_rfl, ?hy6⟩) (by assumption) ?_
            case hy6 => (intro w hSw; (try dsimp only at hSw); obtain ⟨t00, t01, t02, t03⟩ := (hSw.1).all; obtain ⟨t10, t11, t12, t13⟩ := (hSw.2).all; go_simp; try with_reducible rfl)
            try simp only [Act.put, List.getElem_toArray, List.getElem_cons_zero, List.getElem_cons_succ, List.setIfInBounds_toArray, List.set_cons_zero, List.set_cons_succ]
            refine wpAnyH_take (i := 7) (v := ?_) rfl (by kernel_rfl) (by kernel_rfl) (by kernel_rfl) (fun _ _ _ h => h) (Or.inl ⟨by kernel_rfl, ?hy7⟩) (by assumption) ?_
            case hy7 => (intro w hSw; (try dsimp only at hSw); obtain ⟨t00, t01, t02, t03⟩ := (hSw.1).all; obtain ⟨t10, t11, t12, t13⟩ := (hSw.2).all; go_simp; try with_reducible rfl)
            try simp only [Act.put, List.getElem_toArray, List.getElem_cons_zero, List.getElem_cons_succ, List.setIfInBounds_toArray, List.set_cons_zero, List.set_cons_succ]
            refine wpAnyH_take (i := 8) (v := ?_) rfl (by kernel_rfl) (by kernel_rfl) (by kernel_rfl) (fun _ _ _ h => h) (Or.inl ⟨by kernel_rfl, ?hy8⟩) (by assumption) ?_
            case hy8 => (intro w hSw; (try dsimp only at hSw); obtain ⟨t00, t01, t02, t03⟩ := (hSw.1).all; obtain ⟨t10, t11, t12, t13⟩ := (hSw.2).all; go_simp; try with_reducible rfl)
            try simp only [Act.put, List.getElem_toArray, List.getElem_cons_zero, List.getElem_cons_succ, List.setIfInBounds_toArray, List.set_cons_zero, List.set_cons_succ]
            refine wpAnyH_take (i := 9) (v := ?_) rfl (by kernel_rfl) (by kernel_rfl) (by kernel_rfl) (fun _ _ _ h => h) (Or.inl ⟨by kernel_rfl, ?hy9⟩) (by assumption) ?_
            case hy9 => (intro w hSw; (try dsimp only at hSw); obtain ⟨t00, t01, t02, t03⟩ := (hSw.1).all; obtain ⟨t10, t11, t12, t13⟩ := (hSw.2).all; go_simp; try with_reducible rfl)
            try simp only [Act.put, List.getElem_toArray, List.getElem_cons_zero, List.getElem_cons_succ, List.setIfInBounds_toArray, List.set_cons_zero, List.set_cons_succ]
            refine wpAnyH_take (i := 10) (v := ?_) rfl (by kernel_rfl) (by kernel_rfl) (by kernel_rfl) (fun _ _ _ h => h) (Or.inl ⟨by kernel_rfl, ?hy10⟩) (by assumption) ?_
            case hy10 => (intro w hSw; (try dsimp only at hSw); obtain ⟨t00, t01, t02, t03⟩ := (hSw.1).all; obtain ⟨t10, t11, t12, t13⟩ := (hSw.2).all; go_simp; try with_reducible rfl)
            try simp only [Act.put, List.getElem_toArray, List.getElem_cons_zero, List.getElem_cons_succ, List.setIfInBounds_toArray, List.set_cons_zero, List.set_cons_succ]
            refine wpAnyH_take (i := 11) (v := ?_) rfl (by kernel_rfl) (by kernel_rfl) (by kernel_rfl) (fun _ _ _ h => h) (Or.inl ⟨by kernel_rfl, ?hy11⟩) (by assumption) ?_
            case hy11 => (intro w hSw; (try dsimp only at hSw); obtain ⟨t00, t01, t02, t03⟩ := (hSw.1).all; obtain ⟨t10, t11, t12, t13⟩ := (hSw.2).all; go_simp; try with_reducible rfl)
            try simp only [Act.put, List.getElem_toArray, List.getElem_cons_zero, List.getElem_cons_succ, List.setIfInBounds_toArray, List.set_cons_zero, List.set_cons_succ]
            refine wpAnyH_take (i := 12) (v := ?_) rfl (by kernel_rfl) (by kernel_rfl) (by kernel_rfl) (fun _ _ _ h => h) (Or.inl ⟨by kernel_rfl, ?hy12⟩) (by assumption) ?_
            case hy12 => (intro w hSw; (try dsimp only at hSw); obtain ⟨t00, t01, t02, t03⟩ := (hSw.1).all; obtain ⟨t10, t11, t12, t13⟩ := (hSw.2).all; go_simp; try with_reducible rfl)
            try simp only [Act.put, List.getElem_toArray, List.getElem_cons_zero, List.getElem_cons_succ, List.setIfInBounds_toArray, List.set_cons_zero, List.set_cons_succ]
            refine wpAnyH_take (i := 13) (v := ?_) rfl (by kernel_rfl) (by kernel_rfl) (by kernel_rfl) (fun _ _ _ h => h) (Or.inl ⟨by kernel_rfl, ?hy13⟩) (by assumption) ?_
            case hy13 => (intro w hSw; (try dsimp only at hSw); obtain ⟨t00, t01, t02, t03⟩ := (hSw.1).all; obtain ⟨t10, t11, t12, t13⟩ := (hSw.2).all; go_simp; try with_reducible rfl)
            try simp only [Act.put, List.getElem_toArray, List.getElem_cons_zero, List.getElem_cons_succ, List.setIfInBounds_toArray, List.set_cons_zero, List.set_cons_succ]
            refine wpAnyH_take (i := 14) (v := ?_) rfl (by kernel_rfl) (by kernel_rfl) (by kernel_rfl) (fun _ _ _ h => h) (Or.inl ⟨by kernel_rfl, ?hy14⟩) (by assumption) ?_
            case hy14 => (intro w hSw; (try dsimp only at hSw); obtain ⟨t00, t01, t02, t03⟩ := (hSw.1).all; obtain ⟨t10, t11, t12, t13⟩ := (hSw.2).all; go_simp; try with_reducible rfl)
            try simp only [Act.put, List.getElem_toArray, List.getElem_cons_zero, List.getElem_cons_succ, List.setIfInBounds_toArray, List.set_cons_zero, List.set_cons_succ]
            refine wpAnyH_take (i := 15) (v := ?_) rfl (by kernel_rfl) (by kernel_rfl) (by kernel_rfl) (fun _ _ _ h => h) (Or.inl ⟨by kernel_rfl, ?hy15⟩) (by assumption) ?_
            case hy15 => (intro w hSw; (try dsimp only at hSw); obtain ⟨t00, t01, t02, t03⟩ := (hSw.1).all; obtain ⟨t10, t11, t12, t13⟩ := (hSw.2).all; go_simp; try with_reducible rfl)
            try simp only [Act.put, List.getElem_toArray, List.getElem_cons_zero, List.getElem_cons_succ, List.setIfInBounds_toArray, List.set_cons_zero, List.set_cons_succ]
            refine wpAnyH_take (i := 16) (v := ?_) rfl (by kernel_rfl) (by kernel_rfl) (by kernel_rfl) (fun _ _ _ h => h) (Or.inl ⟨by kernel_rfl, ?hy16⟩) (by assumption) ?_
            case hy16 => (intro w hSw; (try dsimp only at hSw); obtain ⟨t00, t01, t02, t03⟩ := (hSw.1).all; obtain ⟨t10, t11, t12, t13⟩ := (hSw.2).all; go_simp; try with_reducible rfl)
            try simp only [Act.put, List.getElem_toArray, List.getElem_cons_zero, List.getElem_cons_succ, List.setIfInBounds_toArray, List.set_cons_zero, List.set_cons_succ]
            refine wpAnyH_take (i := 17) (v := ?_) rfl (by kernel_rfl) (by kernel_rfl) (by kernel_rfl) (fun _ _ _ h => h) (Or.inl ⟨by kernel_rfl, ?hy17⟩) (by assumption) ?_
            case hy17 => (intro w hSw; (try dsimp only at hSw); obtain ⟨t00, t01, t02, t03⟩ := (hSw.1).all; obtain ⟨t10, t11, t12, t13⟩ := (hSw.2).all; go_simp; try with_reducible rfl)
            try simp only [Act.put, List.getElem_toArray, List.getElem_cons_zero, List.getElem_cons_succ, List.setIfInBounds_toArray, List.set_cons_zero, List.set_cons_succ]
            refine wpAnyH_take (i := 18) (v := ?_) rfl (by kernel_rfl) (by kernel_rfl) (by kernel_rfl) (fun _ _ _ h => h) (Or.inl ⟨by kernel_rfl, ?hy18⟩) (by assumption) ?_
            case hy18 => (intro w hSw; (try dsimp only at hSw); obtain ⟨t00, t01, t02, t03⟩ := (hSw.1).all; obtain ⟨t10, t11, t12, t13⟩ := (hSw.2).all; go_simp; try with_reducible rfl)
            try simp only [Act.put, List.getElem_toArray, List.getElem_cons_zero, List.getElem_cons_succ, List.setIfInBounds_toArray, List.set_cons_zero, List.set_cons_succ]
            refine wpAnyH_take (i := 19) (v := ?_) rfl (by kernel_rfl) (by kernel_rfl) (by kernel_rfl) (fun _ _ _ h => h) (Or.inl ⟨by kernel_rfl, ?hy19⟩) (by assumption) ?_
            case hy19 => (intro w hSw; (try dsimp only at hSw); obtain ⟨t00, t01, t02, t03⟩ := (hSw.1).all; obtain ⟨t10, t11, t12, t13⟩ := (hSw.2).all; go_simp; try with_reducible rfl)
            try simp only [Act.put, List.getElem_toArray, List.getElem_cons_zero, List.getElem_cons_succ, List.setIfInBounds_toArray, List.set_cons_zero, List.set_cons_succ]
            refine wpAnyH_ready (rs := [20]) (by kernel_rfl) (by simp) ?_
            refine AllReadyH.cons rfl (fun K hK => ?_) AllReadyH.nil
            go_simp
            refine hK.out _ _ hSA (fun _ => ?_)
            clear hK K hHeld hSD
            have hHeld := hSA
            refine wpAnyH_ready (rs := [21]) (by kernel_rfl) (by simp) ?_
            refine AllReadyH.cons rfl (fun K hK => ?_) AllReadyH.nil
            refine step_append_own_src rfl (.tmp 74) (.tmp 94) 30 30 rfl w.heap.size 36 i0 (.agg #[.int .i64 0, .int .i64 0, .int .i64 0, .int .i64 0]) 4 32 Try.underlying30 hi hz0 hz1 hz2 rfl _ _ _ (by simp [Act.eval]; exact HDd.out) HOA.out.own _ 1 _ (by simp [Act.eval]) HSR.out (by simp only [maxLen]; omega) (fits32 (by omega)) HOA.out.size ?_
            intro v3 w3 o3 g3
            have HO5 := hid (HOA.out.grown (m := [⟨x, y, x' - x, y1 - y⟩]) o3 g3)
            clear o3 g3
            have hS5 : CI w3 bx (ox + i) x ∧ CI w3 bx (ox + (i + 1)) x' := ⟨HC0.out.on HO5.out.bel, HC1.out.on HO5.out.bel⟩
            refine hK.out _ _ hS5 (fun _ => ?_)
            clear hK K hHeld
            have hHeld := hS5
            refine wpAnyH_take (i := 22) (v := ?_) rfl (by kernel_rfl) (by kernel_rfl) (by kernel_rfl) (fun _ _ _ h => h) (Or.inl ⟨by kernel_rfl, ?hy22⟩) (by assumption) ?_
            case hy22 => (intro w hSw; (try dsimp only at hSw); obtain ⟨t00, t01, t02, t03⟩ := (hSw.1).all; obtain ⟨t10, t11, t12, t13⟩ := (hSw.2).all; go_simp; try with_reducible rfl)
            try simp only [Act.put, List.getElem_toArray, List.getElem_cons_zero, List.getElem_cons_succ, List.setIfInBounds_toArray, List.set_cons_zero, List.set_cons_succ]
            refine wpAnyH_done (by kernel_rfl) ?_ _
            clear hHeld hSA HOA HSR
            go_wp2
            go_roundw
            case rel => exact ⟨i + 1, D ++ [r] ++ [⟨x, y, x' - x, y1 - y⟩], by go_num, by omega, by rw [List.length_append, List.length_singleton]; omega, HN.out, fun q hq => by
              rcases List.mem_append.1 hq with hq | hq
              · exact HS.out q hq
              · simp only [List.mem_singleton] at hq
                subst hq
                exact ⟨hxr, hy, by simp only; omega, by simp only; omega⟩, HO5.out⟩
            case measure => simp [numOf]; omega
          · have HN := hid HST.out
            rw [rstep_eq F y (y1 - y) D r hFx (by simpa using hq7)] at HN
            go_quiet (fail)
            have HO3 := hid (HO2.out.on (below_drewN (Below.refl w2.heap.size w2) nq))
            generalize w2.drewN nq = w4 at HO3 ⊢
            clear HO2 cc0 d0 d1 d2 d3
            go_upto_region 8 with fail
            have f12 : IntKind.i64.wrap (x' - r.x) = x' - r.x := by rw [IntKind.wrap_i64]; omega
            obtain ⟨_, _, gel3⟩ := HO3.out.el hd1
            obtain ⟨gl3, d0, d1, d2, d3⟩ := gel3 d r (by rw [HDd.out]; simp)
            have hSD : CI w4.drew g (d * 4) r.x ∧ CI w4.drew bx (ox + (i + 1)) x' := ⟨⟨gl3, d0⟩, ⟨(HC1.out.on HO3.out.bel).lt, (HC1.out.on HO3.out.bel).c⟩⟩
            have fz := HO3.out.fz hd1
            have fz2 : w4.drew.frozen? ⟨g, d * 4 + 2, none⟩ = false := fz _
            have hd2 : w4.drew.cell? ⟨g, d * 4 + 2, none⟩ = some (.int .i64 r.w) := d2
            have HO4 : Hid (OwC w (w4.setCell ⟨g, d * 4 + 2, none⟩ (.int .i64 (x' - r.x))).drew (.slice (some ⟨g, 0, none⟩) (d + 1) cv) (D ++ [⟨r.x, r.y, x' - r.x, r.h⟩])) := by
              have := HO3.out.setW (by rw [HDd.out]) (x' - r.x)
              rw [← HDd.out] at this
              exact this.on (Below.refl _ _).drew
            have hS5 : CI (w4.drew.setCell ⟨g, d * 4 + 2, none⟩ (.int .i64 (x' - r.x))) g (d * 4) r.x ∧ CI (w4.drew.setCell ⟨g, d * 4 + 2, none⟩ (.int .i64 (x' - r.x))) bx (ox + (i + 1)) x' := ⟨hSD.1.set (by omega) _, hSD.2.set (by have := hbx; omega) _⟩
            clear gel3 d0 d1 d2 d3 fz HO3
            have hHeld := hSD
            refine wp_region_held_drew (S := fun q => CI q g (d * 4) r.x ∧ CI q bx (ox + (i + 1)) x') (by kernel_rfl) hHeld (fun _ => ?_)
            refine wpAnyH_take (i := 0) (v := ?_) rfl (by kernel_rfl) (by kernel_rfl) (by kernel_rfl) (fun _ _ _ h => h) (Or.inl ⟨by kernel_rfl, ?hy0⟩) (by assumption) ?_
            case hy0 => (intro w hSw; (try dsimp only at hSw); obtain ⟨t00, t01, t02, t03⟩ := (hSw.1).all; obtain ⟨t10, t11, t12, t13⟩ := (hSw.2).all; go_simp; try with_reducible rfl)
            try simp only [Act.put, List.getElem_toArray, List.getElem_cons_zero, List.setIfInBounds_toArray, List.set_cons_zero, List.set_cons_succ]
            refine wpAnyH_take (i := 1) (v := ?_) rfl (by kernel_rfl) (by kernel_rfl) (by kernel_rfl) (fun _ _ _ h => h) (Or.inl ⟨by kernel_rfl, ?hy1⟩) (by assumption) ?_
            case hy1 => (intro w hSw; (try dsimp only at hSw); obtain ⟨t00, t01, t02, t03⟩ := (hSw.1).all; obtain ⟨t10, t11, t12, t13⟩ := (hSw.2).all; go_simp; try with_reducible rfl)
            try simp only [Act.put, List.getElem_toArray, List.getElem_cons_zero, List.getElem_cons_succ, List.setIfInBounds_toArray, List.set_cons_zero, List.set_cons_succ]
            refine wpAnyH_take (i := 2) (v := ?_) rfl (by kernel_rfl) (by kernel_rfl) (by kernel_rfl) (fun _ _ _ h => h) (Or.inl ⟨by kernel_rfl, ?hy2⟩) (by assumption) ?_
            case hy2 => (intro w hSw; (try dsimp only at hSw); obtain ⟨t00, t01, t02, t03⟩ := (hSw.1).all; obtain ⟨t10, t11, t12, t13⟩ := (hSw.2).all; go_simp; try with_reducible rfl)
            try simp only [Act.put, List.getElem_toArray, List.getElem_cons_zero, List.getElem_cons_succ, List.setIfInBounds_toArray, List.set_cons_zero, List.set_cons_succ]
            refine wpAnyH_take (i := 3) (v := ?_) rfl (by kernel_rfl) (by kernel_rfl) (by kernel_rfl) (fun _ _ _ h => h) (Or.inl ⟨by kernel_rfl, ?hy3⟩) (by assumption) ?_
            case hy3 => (intro w hSw; (try dsimp only at hSw); obtain ⟨t00, t01, t02, t03⟩ := (hSw.1).all; obtain ⟨t10, t11, t12, t13⟩ := (hSw.2).all; go_simp; try with_reducible rfl)
            try simp only [Act.put, List.getElem_toArray, List.getElem_cons_zero, List.getElem_cons_succ, List.setIfInBounds_toArray, List.set_cons_zero, List.set_cons_succ]
            refine wpAnyH_take (i := 4) (v := ?_) rfl (by kernel_rfl) (by kernel_rfl) (by kernel_rfl) (fun _ _ _ h => h) (Or.inl ⟨by kernel_rfl, ?hy4⟩) (by assumption) ?_
            case hy4 => (intro w hSw; (try dsimp only at hSw); obtain ⟨t00, t01, t02, t03⟩ := (hSw.1).all; obtain ⟨t10, t11, t12, t13⟩ := (hSw.2).all; go_simp; try with_reducible rfl)
            try simp only [Act.put, List.getElem_toArray, List.getElem_cons_zero, List.getElem_cons_succ, List.setIfInBounds_toArray, List.set_cons_zero, List.set_cons_succ]
            refine wpAnyH_take (i := 5) (v := ?_) rfl (by kernel_rfl) (by kernel_rfl) (by kernel_rfl) (fun _ _ _ h => h) (Or.inl ⟨by kernel_rfl, ?hy5⟩) (by assumption) ?_
            case hy5 => (intro w hSw; (try dsimp only at hSw); obtain ⟨t00, t01, t02, t03⟩ := (hSw.1).all; obtain ⟨t10, t11, t12, t13⟩ := (hSw.2).all; go_simp; try with_reducible rfl)
            try simp only [Act.put, List.getElem_toArray, List.getElem_cons_zero, List.getElem_cons_succ, List.setIfInBounds_toArray, List.set_cons_zero, List.set_cons_succ]
            refine wpAnyH_take (i := 6) (v := ?_) rfl (by kernel_rfl) (by kernel_rfl) (by kernel_rfl) (fun _ _ _ h => h) (Or.inl ⟨by kernel_rfl, ?hy6⟩) (by assumption) ?_
            case hy6 => (intro w hSw; (try dsimp only at hSw); obtain ⟨t00, t01, t02, t03⟩ := (hSw.1).all; obtain ⟨t10, t11, t12, t13⟩ := (hSw.2).all; go_simp; try with_reducible rfl)
            try simp only [Act.put, List.getElem_toArray, List.getElem_cons_zero, List.getElem_cons_succ, List.setIfInBounds_toArray, List.set_cons_zero, List.set_cons_succ]
            refine wpAnyH_take (i := 7) (v := ?_) rfl (by kernel_rfl) (by kernel_rfl) (by kernel_rfl) (fun _ _ _ h => h) (Or.inl ⟨by kernel_rfl, ?hy7⟩) (by assumption) ?_
            case hy7 => (intro w hSw; (try dsimp only at hSw); obtain ⟨t00, t01, t02, t03⟩ := (hSw.1).all; obtain ⟨t10, t11, t12, t13⟩ := (hSw.2).all; go_simp; try with_reducible rfl)
            try simp only [Act.put, List.getElem_toArray, List.getElem_cons_zero, List.getElem_cons_succ, List.setIfInBounds_toArray, List.set_cons_zero, List.set_cons_succ]
            refine wpAnyH_take (i := 8) (v := ?_) rfl (by kernel_rfl) (by kernel_rfl) (by kernel_rfl) (fun _ _ _ h => h) (Or.inl ⟨by kernel_rfl, ?hy8⟩) (by assumption) ?_
            case hy8 => (intro w hSw; (try dsimp only at hSw); obtain ⟨t00, t01, t02, t03⟩ := (hSw.1).all; obtain ⟨t10, t11, t12, t13⟩ := (hSw.2).all; go_simp; try with_reducible rfl)
            try simp only [Act.put, List.getElem_toArray, List.getElem_cons_zero, List.getElem_cons_succ, List.setIfInBounds_toArray, List.set_cons_zero, List.set_cons_succ]
            refine wpAnyH_take (i := 9) (v := ?_) rfl (by kernel_rfl) (by kernel_rfl) (by kernel_rfl) (fun _ _ _ h => h) (Or.inl ⟨by kernel_rfl, ?hy9⟩) (by assumption) ?_
            case hy9 => (intro w hSw; (try dsimp only at hSw); obtain ⟨t00, t01, t02, t03⟩ := (hSw.1).all; obtain ⟨t10, t11, t12, t13⟩ := (hSw.2).all; go_simp; try with_reducible rfl)
            try simp only [Act.put, List.getElem_toArray, List.getElem_cons_zero, List.getElem_cons_succ, List.setIfInBounds_toArray, List.set_cons_zero, List.set_cons_succ]
            refine wpAnyH_take (i := 10) (v := ?_) rfl (by kernel_rfl) (by kernel_rfl) (by kernel_rfl) (fun _ _ _ h => h) (Or.inl ⟨by kernel_rfl, ?hy10⟩) (by assumption) ?_
            case hy10 => (intro w hSw; (try dsimp only at hSw); obtain ⟨t00, t01, t02, t03⟩ := (hSw.1).all; obtain ⟨t10, t11, t12, t13⟩ := (hSw.2).all; go_simp; try with_reducible rfl)
            try simp only [Act.put, List.getElem_toArray, List.getElem_cons_zero, List.getElem_cons_succ, List.setIfInBounds_toArray, List.set_cons_zero, List.set_cons_succ]
            refine wpAnyH_take (i := 11) (v := ?_) rfl (by kernel_rfl) (by kernel_rfl) (by kernel_rfl) (fun _ _ _ h => h) (Or.inl ⟨by kernel_rfl, ?hy11⟩) (by assumption) ?_
            case hy11 => (intro w hSw; (try dsimp only at hSw); obtain ⟨t00, t01, t02, t03⟩ := (hSw.1).all; obtain ⟨t10, t11, t12, t13⟩ := (hSw.2).all; go_simp; try with_reducible rfl)
            try simp only [Act.put, List.getElem_toArray, List.getElem_cons_zero, List.getElem_cons_succ, List.setIfInBounds_toArray, List.set_cons_zero, List.set_cons_succ]
            refine wpAnyH_take (i := 12) (v := ?_) rfl (by kernel_rfl) (by kernel_rfl) (by kernel_rfl) (fun _ _ _ h => h) (Or.inl ⟨by kernel_rfl, ?hy12⟩) (by assumption) ?_
            case hy12 => (intro w hSw; (try dsimp only at hSw); obtain ⟨t00, t01, t02, t03⟩ := (hSw.1).all; obtain ⟨t10, t11, t12, t13⟩ := (hSw.2).all; go_simp; try with_reducible rfl)
            try simp only [Act.put, List.getElem_toArray, List.getElem_cons_zero, List.getElem_cons_succ, List.setIfInBounds_toArray, List.set_cons_zero, List.set_cons_succ]
            refine wpAnyH_take (i := 13) (v := ?_) rfl (by kernel_rfl) (by kernel_rfl) (by kernel_rfl) (fun _ _ _ h => h) (Or.inl ⟨by kernel_rfl, ?hy13⟩) (by assumption) ?_
            case hy13 => (intro w hSw; (try dsimp only at hSw); obtain ⟨t00, t01, t02, t03⟩ := (hSw.1).all; obtain ⟨t10, t11, t12, t13⟩ := (hSw.2).all; go_simp; try with_reducible rfl)
            try simp only [Act.put, List.getElem_toArray, List.getElem_cons_zero, List.getElem_cons_succ, List.setIfInBounds_toArray, List.set_cons_zero, List.set_cons_succ]
            refine wpAnyH_take (i := 14) (v := ?_) rfl (by kernel_rfl) (by kernel_rfl) (by kernel_rfl) (fun _ _ _ h => h) (Or.inl ⟨by kernel_rfl, ?hy14⟩) (by assumption) ?_
            case hy14 => (intro w hSw; (try dsimp only at hSw); obtain ⟨t00, t01, t02, t03⟩ := (hSw.1).all; obtain ⟨t10, t11, t12, t13⟩ := (hSw.2).all; go_simp; try with_reducible rfl)
            try simp only [Act.put, List.getElem_toArray, List.getElem_cons_zero, List.getElem_cons_succ, List.setIfInBounds_toArray, List.set_cons_zero, List.set_cons_succ]
            refine wpAnyH_take (i := 15) (v := ?_) rfl (by kernel_rfl) (by kernel_rfl) (by kernel_rfl) (fun _ _ _ h => h) (Or.inl ⟨by kernel_rfl, ?hy15⟩) (by assumption) ?_
            case hy15 => (intro w hSw; (try dsimp only at hSw); obtain ⟨t00, t01, t02, t03⟩ := (hSw.1).all; obtain ⟨t10, t11, t12, t13⟩ := (hSw.2).all; go_simp; try with_reducible rfl)
            try simp only [Act.put, List.getElem_toArray, List.getElem_cons_zero, List.getElem_cons_succ, List.setIfInBounds_toArray, List.set_cons_zero, List.set_cons_succ]
            refine wpAnyH_take (i := 16) (v := ?_) rfl (by kernel_rfl) (by kernel_rfl) (by kernel_rfl) (fun _ _ _ h => h) (Or.inl ⟨by kernel_rfl, ?hy16⟩) (by assumption) ?_
            case hy16 => (intro w hSw; (try dsimp only at hSw); obtain ⟨t00, t01, t02, t03⟩ := (hSw.1).all; obtain ⟨t10, t11, t12, t13⟩ := (hSw.2).all; go_simp; try with_reducible rfl)
            try simp only [Act.put, List.getElem_toArray, List.getElem_cons_zero, List.getElem_cons_succ, List.setIfInBounds_toArray, List.set_cons_zero, List.set_cons_succ]
            refine wpAnyH_ready (rs := [17]) (by kernel_rfl) (by simp) ?_
            refine AllReadyH.cons rfl (fun K hK => ?_) AllReadyH.nil
            go_simp
            refine hK.out _ _ hS5 (fun _ => ?_)
            clear hK K hHeld
            have hHeld := hS5
            refine wpAnyH_done (by kernel_rfl) ?_ _
            clear hHeld hS5 hSD
            go_wp2
            go_roundw
            case rel => exact ⟨i + 1, D ++ [⟨r.x, r.y, x' - r.x, r.h⟩], by go_num, by omega, by simp only [List.length_append, List.length_singleton] at hLi ⊢; omega, HN.out, fun q hq => by
              rcases List.mem_append.1 hq with hq | hq
              · exact HS.out q (by simp [hq])
              · simp only [List.mem_singleton] at hq
                subst hq
                exact ⟨sx, sy, by simp only; omega, sh2⟩, HO4.out⟩
            case measure => simp [numOf]; omega
    · have e1 : decide ((i : Int) + 1 < N) = false := decide_eq_false (by omega)
      have HE : Hid (L = T) := by
        have := HQ.out
        rcases Nat.lt_or_ge i N with h | h
        · obtain ⟨x, hxi⟩ : ∃ x, xs[i]? = some x := ⟨_, List.getElem?_eq_getElem (by rw [HL.out]; omega)⟩
          rw [drop_at hxi, List.drop_eq_nil_of_le (by rw [HL.out]; omega), rgo] at this
          · exact this
          · intros; simp at *
        · rw [List.drop_eq_nil_of_le (by rw [HL.out]; omega), rgo] at this
          · exact this
          · intros; simp at *
      go_wp2
      go_ret
      rw [← HE.out]
      exact ⟨_, rfl, HO.out, HS.out⟩
end Go.Proofs.Ytlkodgmnhphfcaa
