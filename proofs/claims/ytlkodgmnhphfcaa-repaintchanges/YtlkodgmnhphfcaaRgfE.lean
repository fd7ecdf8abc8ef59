/- The document's make1. -/
import Derived.Test.YtlkodgmnhphfcaaRgfD
import Derived.Test.YtlkodgmnhphfcaaLibD
namespace Go.Proofs.Ytlkodgmnhphfcaa
open Go Go.RowKit

/-- The first k higher by d. -/
def gk (d : Int) (k : Nat) (l : List Rc) : List Rc := (l.take k).map (fun r => ⟨r.x, r.y, r.w, r.h + d⟩) ++ l.drop k
theorem gk_len (d : Int) (k : Nat) (l : List Rc) : (gk d k l).length = l.length := by
  rw [gk, List.length_append, List.length_map, ← List.length_append, List.take_append_drop]
theorem gk_at {d : Int} {k : Nat} {l : List Rc} {r : Rc} (h : l[k]? = some r) : (gk d k l)[k]? = some r := by
  have hj : k < l.length := (List.getElem?_eq_some_iff.1 h).1
  have hl : ((l.take k).map (fun r => (⟨r.x, r.y, r.w, r.h + d⟩ : Rc))).length = k := by simp; omega
  rw [gk, List.getElem?_append_right (by omega), hl, Nat.sub_self, List.getElem?_drop, Nat.add_zero]
  exact h
theorem gk_set {d : Int} {k : Nat} {l : List Rc} {r : Rc} (h : l[k]? = some r) : (gk d k l).set k ⟨r.x, r.y, r.w, r.h + d⟩ = gk d (k + 1) l := by
  have hj : k < l.length := (List.getElem?_eq_some_iff.1 h).1
  have hl : ((l.take k).map (fun r => (⟨r.x, r.y, r.w, r.h + d⟩ : Rc))).length = k := by simp; omega
  rw [gk, List.set_append_right _ _ (by omega), hl, Nat.sub_self, drop_at h, List.set_cons_zero, gk, List.take_add_one, h]
  simp
theorem gk_all (d : Int) (l : List Rc) : gk d l.length l = grow d l := by
  rw [gk, List.take_length, List.drop_length, List.append_nil]
  rfl
theorem rccs_setH {l : List Rc} {j : Nat} {r : Rc} (h : l[j]? = some r) (z : Int) : (rccs l).set (j * 4 + 3) (.int .i64 z) = rccs (l.set j ⟨r.x, r.y, r.w, z⟩) := by
  induction l generalizing j with
  | nil => simp at h
  | cons x l ih =>
    cases j with
    | zero =>
      simp only [List.getElem?_cons_zero, Option.some.injEq] at h
      subst h
      simp [rccs_cons]
    | succ j =>
      rw [List.getElem?_cons_succ] at h
      rw [List.set_cons_succ, rccs_cons, rccs_cons, ← ih h, show (j + 1) * 4 + 3 = j * 4 + 3 + 4 by omega]
      simp only [List.set_cons_succ]
theorem OwC.setH {w u : World} {g n c : Nat} {l : List Rc} {j : Nat} {r : Rc} (h : OwC w u (.slice (some ⟨g, 0, none⟩) n c) l) (hn : l.length = n) (hr : l[j]? = some r) (z : Int) : OwC w (u.setCell ⟨g, j * 4 + 3, none⟩ (.int .i64 z)) (.slice (some ⟨g, 0, none⟩) n c) (l.set j ⟨r.x, r.y, r.w, z⟩) := by
  have h1 := h.own
  rw [hn] at h1
  have hg := (h1.lt g rfl).1
  have h2 := (h1.stored (j * 4 + 3) (.int .i64 z)).1
  rw [rccs_setH hr] at h2
  exact ⟨by rw [List.length_set, hn]; exact h2, h.bel.setCell (p := ⟨g, _, none⟩) hg _⟩
theorem OwC.set {w u : World} {v : Value} {l : List Rc} (h : OwC w u v l) {g k : Nat} (hn : v.ownBlock ≠ some g) (hg : w.heap.size ≤ g) (x : Value) : OwC w (u.setCell ⟨g, k, none⟩ x) v l := ⟨ownsRow_set h.own ⟨g, k, none⟩ hn x, h.bel.setCell (p := ⟨g, k, none⟩) hg _⟩

/-- make1's state: what is put by, and the last band, apart from one another. -/
structure M1 (w u : World) (s9 s10 : Value) (L last : List Rc) : Prop where
  fst : OwC w u s9 L
  snd : OwC w u s10 last
  ne : ∀ k, s9.ownBlock = some k → s10.ownBlock ≠ some k
theorem M1.on {w u u' : World} {s9 s10 : Value} {L last : List Rc} (h : M1 w u s9 s10 L last) (hb : Below u.heap.size u u') : M1 w u' s9 s10 L last := ⟨h.fst.on hb, h.snd.on hb, h.ne⟩

set_option maxRecDepth 100000 in
set_option maxHeartbeats 1000000 in
theorem rmake1_any (a a' : Option Addr) (n c n' c' : Nat) (l m : List Rc) (how : Int) (w : World) (h : RdC w a n c l) (h' : RdC w a' n' c' m) (hkl : ∀ x ∈ l, Ck x) (hkm : ∀ x ∈ m, Ck x) (hn : n + n' ≤ 4096) :
    Calls Try.prog 24 #[.slice a n c, .slice a' n' c', .int .i64 how] w fun e w' => ∃ v, e = .returned v ∧ OwC w w' v (mk (fH how) l m) := by
  have H := hid h
  have H' := hid h'
  have KL := hid hkl
  have KM := hid hkm
  have HXL : Hid ((xsOf (l ++ m)).length ≤ 8192) := by
    have := xs_length (l ++ m)
    rw [List.length_append, h.len, h'.len] at this
    rw [Hid]
    omega
  have HYL : Hid ((ysOf (l ++ m)).length ≤ 8192) := by
    have := ys_length (l ++ m)
    rw [List.length_append, h.len, h'.len] at this
    rw [Hid]
    omega
  have CE := hid (redges_any a a' n c n' c' l m w h h' (ck_both hkl hkm) hn)
  have HT := hid (mgo_mk (f := fH how) (fH_ff how) hkl hkm)
  have HYR : Hid (∀ y ∈ ysOf (l ++ m), -16777216 ≤ y ∧ y ≤ 16777216) := fun y hy => ys_in (ck_both hkl hkm) hy
  have HXR : Hid (∀ y ∈ xsOf (l ++ m), -16777216 ≤ y ∧ y ≤ 16777216) := fun y hy => xs_in (ck_both hkl hkm) hy
  obtain ⟨RR, hRR⟩ : ∃ RR : Int → Int → List Rc, RR = fun y y' => rgo (fun x => fH how (pt l x y) (pt m x y)) y (y' - y) [] (xsOf (l ++ m)) := ⟨_, rfl⟩
  have HRR := hid hRR
  rw [← hRR] at HT
  have HRP : Hid (∀ y y', (RR y y').length ≤ 8192 ∧ ∀ r ∈ RR y y', r.y = y ∧ r.h = y' - y) := fun y y' => by
    have e : RR y y' = prs y (y' - y) (lin (fH how) l m y) := by rw [HRR.out]; exact row_prs (fH_ff how) y (y' - y)
    rw [e]
    refine ⟨?_, fun r hr => ?_⟩
    · have h1 := prs_len y (y' - y) (lin (fH how) l m y)
      have h2 : (lin (fH how) l m y).length ≤ (xsOf (l ++ m)).length := (chg_sub _ _ _).length_le
      have h3 := HXL.out
      omega
    · obtain ⟨g1, g2, _⟩ := prs_mem ((lin_edges (fH_ff how) KL.out KM.out).rise y) hr
      exact ⟨g1, g2⟩
  generalize mk (fH how) l m = T at HT ⊢
  obtain ⟨i0, hi, hz0, hz1, hz2⟩ := info3 infoC
  clear h h' hkl hkm hRR
  generalize ysOf (l ++ m) = ys at CE HT HYL HYR
  go_enter Try.func24, Try.ntmps24
  go_wp2_with fail
  refine CE.out.mono ?_
  rintro e w1 ⟨vx, vy, rfl, hvx, hvy⟩
  obtain ⟨ax, cx, rfl, hrx⟩ := rdj_of_owns hvx.own
  obtain ⟨ay, cy, rfl, hry⟩ := rdj_of_owns hvy.own
  have HRX := hid hrx
  have HRY := hid hry
  have HB1 := hid hvx.bel
  have hsy := hry.small
  have hyl := HYL.out
  have H1 := hid (H.out.on hvx.bel)
  have H1' := hid (H'.out.on hvx.bel)
  clear hvx hvy hrx hry CE
  go_wp2
  go_loopw [9, 10, 11] (fun s9 s10 s11 wr => ∃ (i : Nat) (L last : List Rc), s11 = .int .i64 i ∧ i ≤ ys.length ∧ L.length ≤ i * 8192 ∧ last.length ≤ 8192 ∧ mgo RR L last (ys.drop i) = T ∧ (∀ r ∈ last, Sm r ∧ ∀ y, ys[i]? = some y → r.y + r.h = y) ∧ M1 w1 wr s9 s10 L last) (fun _ _ s11 _ => ys.length - (numOf s11).toNat)
  case atStart => exact ⟨0, [], [], rfl, by omega, by simp, by simp, HT.out, by simp, OwC.nil w1, OwC.nil w1, fun k hk => by cases hk⟩
  case round =>
    obtain ⟨i, L, last, rfl, hin, hLl, hll, hq, hS, hM⟩ := hrel
    have HQ := hid hq
    have HS := hid hS
    have HM := hid hM
    clear hq hS hM
    by_cases hgo : i + 1 < ys.length
    · have e1 : decide ((i : Int) + 1 < ys.length) = true := decide_eq_true (by omega)
      have e2 : (i : Int) < ys.length := by omega
      have e3 : (i : Int) + 1 < ys.length := by omega
      have e4 : (0 : Int) ≤ (i : Int) + 1 := by omega
      have f10 : IntKind.i64.wrap ((i : Int) + 1) = (i : Int) + 1 := by rw [IntKind.wrap_i64]; omega
      obtain ⟨by_, oy, rfl, hby, hcy⟩ := HRY.out.pl (by omega)
      obtain ⟨y, hyi⟩ : ∃ y, ys[i]? = some y := ⟨_, List.getElem?_eq_getElem (by omega)⟩
      obtain ⟨y', hyi'⟩ : ∃ y', ys[i + 1]? = some y' := ⟨_, List.getElem?_eq_getElem (by omega)⟩
      have HC0 : Hid (CI w1 by_ (oy + i) y) := ⟨hby, hcy i y hyi⟩
      have HC1 : Hid (CI w1 by_ (oy + (i + 1)) y') := ⟨hby, hcy (i + 1) y' hyi'⟩
      have hyr := HYR.out y (List.mem_of_getElem? hyi)
      have hyr' := HYR.out y' (List.mem_of_getElem? hyi')
      have HYI := hid hyi
      have HYI' := hid hyi'
      have HST : Hid ((if alk last (RR y y') = true then mgo RR L (grow (y' - y) last) (ys.drop (i + 1)) else mgo RR (L ++ last) (RR y y') (ys.drop (i + 1))) = T) := by
        have := HQ.out
        rw [drop_at hyi, drop_at hyi', mgo, ← drop_at hyi'] at this
        exact this
      have CR := hid (fun u hu hu' hx => rrow_any a a' ax n c n' c' (xsOf (l ++ m)).length cx l m (xsOf (l ++ m)) y y' how u hu hu' hx HXR.out hyr hyr' HXL.out)
      have HRe : Hid (rgo (fun x => fH how (pt l x y) (pt m x y)) y (y' - y) [] (xsOf (l ++ m)) = RR y y') := by rw [HRR.out]; rfl
      rw [HRe.out] at CR
      have HP := hid (HRP.out y y')
      have HCW0 := hid (HC0.out.on HM.out.fst.bel)
      have HCW1 := hid (HC1.out.on HM.out.fst.bel)
      clear hcy hyi hyi' HRe
      generalize RR y y' = R at CR HST HP
      go_upto_region 6 with fail
      refine wp_region_held_drew (S := fun x => Below wr.heap.size wr x) (by kernel_rfl) (Below.refl _ _).drew (fun hHeld => ?_)
      have hHeld : Below wr.heap.size wr wr.drew := hHeld
      refine wpAnyH_take (i := 0) (v := ?_) rfl (by kernel_rfl) (by kernel_rfl) (by kernel_rfl) (fun _ _ _ h => h) (Or.inl ⟨by kernel_rfl, ?hy0⟩) (by assumption) ?_
      case hy0 => (intro w hSw; (try dsimp only at hSw); obtain ⟨t00, t01, t02, t03⟩ := (HCW0.out.on hSw).all; obtain ⟨t10, t11, t12, t13⟩ := (HCW1.out.on hSw).all; go_simp; try with_reducible rfl)
      try simp only [Act.put, List.getElem_toArray, List.getElem_cons_zero, List.setIfInBounds_toArray, List.set_cons_zero, List.set_cons_succ]
      refine wpAnyH_take (i := 1) (v := ?_) rfl (by kernel_rfl) (by kernel_rfl) (by kernel_rfl) (fun _ _ _ h => h) (Or.inl ⟨by kernel_rfl, ?hy1⟩) (by assumption) ?_
      case hy1 => (intro w hSw; (try dsimp only at hSw); obtain ⟨t00, t01, t02, t03⟩ := (HCW0.out.on hSw).all; obtain ⟨t10, t11, t12, t13⟩ := (HCW1.out.on hSw).all; go_simp; try with_reducible rfl)
      try simp only [Act.put, List.getElem_toArray, List.getElem_cons_zero, List.getElem_cons_succ, List.setIfInBounds_toArray, List.set_cons_zero, List.set_cons_succ]
      refine wpAnyH_take (i := 2) (v := ?_) rfl (by kernel_rfl) (by kernel_rfl) (by kernel_rfl) (fun _ _ _ h => h) (Or.inl ⟨by kernel_rfl, ?hy2⟩) (by assumption) ?_
      case hy2 => (intro w hSw; (try dsimp only at hSw); obtain ⟨t00, t01, t02, t03⟩ := (HCW0.out.on hSw).all; obtain ⟨t10, t11, t12, t13⟩ := (HCW1.out.on hSw).all; go_simp; try with_reducible rfl)
      try simp only [Act.put, List.getElem_toArray, List.getElem_cons_zero, List.getElem_cons_succ, List.setIfInBounds_toArray, List.set_cons_zero, List.set_cons_succ]
      refine wpAnyH_take (i := 3) (v := ?_) rfl (by kernel_rfl) (by kernel_rfl) (by kernel_rfl) (fun _ _ _ h => h) (Or.inl ⟨by kernel_rfl, ?hy3⟩) (by assumption) ?_
      case hy3 => (intro w hSw; (try dsimp only at hSw); obtain ⟨t00, t01, t02, t03⟩ := (HCW0.out.on hSw).all; obtain ⟨t10, t11, t12, t13⟩ := (HCW1.out.on hSw).all; go_simp; try with_reducible rfl)
      try simp only [Act.put, List.getElem_toArray, List.getElem_cons_zero, List.getElem_cons_succ, List.setIfInBounds_toArray, List.set_cons_zero, List.set_cons_succ]
      refine wpAnyH_take (i := 4) (v := ?_) rfl (by kernel_rfl) (by kernel_rfl) (by kernel_rfl) (fun _ _ _ h => h) (Or.inl ⟨by kernel_rfl, ?hy4⟩) (by assumption) ?_
      case hy4 => (intro w hSw; (try dsimp only at hSw); obtain ⟨t00, t01, t02, t03⟩ := (HCW0.out.on hSw).all; obtain ⟨t10, t11, t12, t13⟩ := (HCW1.out.on hSw).all; go_simp; try with_reducible rfl)
      try simp only [Act.put, List.getElem_toArray, List.getElem_cons_zero, List.getElem_cons_succ, List.setIfInBounds_toArray, List.set_cons_zero, List.set_cons_succ]
      refine wpAnyH_take (i := 5) (v := ?_) rfl (by kernel_rfl) (by kernel_rfl) (by kernel_rfl) (fun _ _ _ h => h) (Or.inl ⟨by kernel_rfl, ?hy5⟩) (by assumption) ?_
      case hy5 => (intro w hSw; (try dsimp only at hSw); obtain ⟨t00, t01, t02, t03⟩ := (HCW0.out.on hSw).all; obtain ⟨t10, t11, t12, t13⟩ := (HCW1.out.on hSw).all; go_simp; try with_reducible rfl)
      try simp only [Act.put, List.getElem_toArray, List.getElem_cons_zero, List.getElem_cons_succ, List.setIfInBounds_toArray, List.set_cons_zero, List.set_cons_succ]
      refine wpAnyH_take (i := 6) (v := ?_) rfl (by kernel_rfl) (by kernel_rfl) (by kernel_rfl) (fun _ _ _ h => h) (Or.inl ⟨by kernel_rfl, ?hy6⟩) (by assumption) ?_
      case hy6 => (intro w hSw; (try dsimp only at hSw); obtain ⟨t00, t01, t02, t03⟩ := (HCW0.out.on hSw).all; obtain ⟨t10, t11, t12, t13⟩ := (HCW1.out.on hSw).all; go_simp; try with_reducible rfl)
      try simp only [Act.put, List.getElem_toArray, List.getElem_cons_zero, List.getElem_cons_succ, List.setIfInBounds_toArray, List.set_cons_zero, List.set_cons_succ]
      refine wpAnyH_take (i := 7) (v := ?_) rfl (by kernel_rfl) (by kernel_rfl) (by kernel_rfl) (fun _ _ _ h => h) (Or.inl ⟨by kernel_rfl, ?hy7⟩) (by assumption) ?_
      case hy7 => (intro w hSw; (try dsimp only at hSw); obtain ⟨t00, t01, t02, t03⟩ := (HCW0.out.on hSw).all; obtain ⟨t10, t11, t12, t13⟩ := (HCW1.out.on hSw).all; go_simp; try with_reducible rfl)
      try simp only [Act.put, List.getElem_toArray, List.getElem_cons_zero, List.getElem_cons_succ, List.setIfInBounds_toArray, List.set_cons_zero, List.set_cons_succ]
      refine wpAnyH_take (i := 8) (v := ?_) rfl (by kernel_rfl) (by kernel_rfl) (by kernel_rfl) (fun _ _ _ h => h) (Or.inl ⟨by kernel_rfl, ?hy8⟩) (by assumption) ?_
      case hy8 => (intro w hSw; (try dsimp only at hSw); obtain ⟨t00, t01, t02, t03⟩ := (HCW0.out.on hSw).all; obtain ⟨t10, t11, t12, t13⟩ := (HCW1.out.on hSw).all; go_simp; try with_reducible rfl)
      try simp only [Act.put, List.getElem_toArray, List.getElem_cons_zero, List.getElem_cons_succ, List.setIfInBounds_toArray, List.set_cons_zero, List.set_cons_succ]
      refine wpAnyH_take (i := 9) (v := ?_) rfl (by kernel_rfl) (by kernel_rfl) (by kernel_rfl) (fun _ _ _ h => h) (Or.inl ⟨by kernel_rfl, ?hy9⟩) (by assumption) ?_
      case hy9 => (intro w hSw; (try dsimp only at hSw); obtain ⟨t00, t01, t02, t03⟩ := (HCW0.out.on hSw).all; obtain ⟨t10, t11, t12, t13⟩ := (HCW1.out.on hSw).all; go_simp; try with_reducible rfl)
      try simp only [Act.put, List.getElem_toArray, List.getElem_cons_zero, List.getElem_cons_succ, List.setIfInBounds_toArray, List.set_cons_zero, List.set_cons_succ]
      refine wpAnyH_take (i := 10) (v := ?_) rfl (by kernel_rfl) (by kernel_rfl) (by kernel_rfl) (fun _ _ _ h => h) (Or.inl ⟨by kernel_rfl, ?hy10⟩) (by assumption) ?_
      case hy10 => (intro w hSw; (try dsimp only at hSw); obtain ⟨t00, t01, t02, t03⟩ := (HCW0.out.on hSw).all; obtain ⟨t10, t11, t12, t13⟩ := (HCW1.out.on hSw).all; go_simp; try with_reducible rfl)
      try simp only [Act.put, List.getElem_toArray, List.getElem_cons_zero, List.getElem_cons_succ, List.setIfInBounds_toArray, List.set_cons_zero, List.set_cons_succ]
      refine wpAnyH_take (i := 11) (v := ?_) rfl (by kernel_rfl) (by kernel_rfl) (by kernel_rfl) (fun _ _ _ h => h) (Or.inl ⟨by kernel_rfl, ?hy11⟩) (by assumption) ?_
      case hy11 => (intro w hSw; (try dsimp only at hSw); obtain ⟨t00, t01, t02, t03⟩ := (HCW0.out.on hSw).all; obtain ⟨t10, t11, t12, t13⟩ := (HCW1.out.on hSw).all; go_simp; try with_reducible rfl)
      try simp only [Act.put, List.getElem_toArray, List.getElem_cons_zero, List.getElem_cons_succ, List.setIfInBounds_toArray, List.set_cons_zero, List.set_cons_succ]
      refine wpAnyH_take (i := 12) (v := ?_) rfl (by kernel_rfl) (by kernel_rfl) (by kernel_rfl) (fun _ _ _ h => h) (Or.inl ⟨by kernel_rfl, ?hy12⟩) (by assumption) ?_
      case hy12 => (intro w hSw; (try dsimp only at hSw); obtain ⟨t00, t01, t02, t03⟩ := (HCW0.out.on hSw).all; obtain ⟨t10, t11, t12, t13⟩ := (HCW1.out.on hSw).all; go_simp; try with_reducible rfl)
      try simp only [Act.put, List.getElem_toArray, List.getElem_cons_zero, List.getElem_cons_succ, List.setIfInBounds_toArray, List.set_cons_zero, List.set_cons_succ]
      refine wpAnyH_ready (rs := [13]) (by kernel_rfl) (by simp) ?_
      refine AllReadyH.cons rfl (fun K hK => ?_) AllReadyH.nil
      go_simp
      go_wp2_with fail
      refine (CR.out _ (H1.out.on (Below.on HM.out.fst.bel hHeld)) (H1'.out.on (Below.on HM.out.fst.bel hHeld)) (HRX.out.on (Below.on HM.out.fst.bel hHeld))).mono ?_
      rintro e u40 ⟨v40, rfl, h40, s40⟩
      have HO6 := hid (h40.base hHeld)
      have HS6 := hid s40
      replace hHeld := Below.on hHeld h40.bel
      refine hK.out _ _ hHeld (fun _ => ?_)
      clear hK K h40 s40
      refine wpAnyH_take (i := 14) (v := ?_) rfl (by kernel_rfl) (by kernel_rfl) (by kernel_rfl) (fun _ _ _ h => h) (Or.inl ⟨by kernel_rfl, ?hy14⟩) (by assumption) ?_
      case hy14 => (intro w hSw; (try dsimp only at hSw); obtain ⟨t00, t01, t02, t03⟩ := (HCW0.out.on hSw).all; obtain ⟨t10, t11, t12, t13⟩ := (HCW1.out.on hSw).all; go_simp; try with_reducible rfl)
      try simp only [Act.put, List.getElem_toArray, List.getElem_cons_zero, List.getElem_cons_succ, List.setIfInBounds_toArray, List.set_cons_zero, List.set_cons_succ]
      refine wpAnyH_done (by kernel_rfl) ?_ _
      have HM2 := hid (HM.out.on hHeld)
      have HBW := hid (Below.on HM.out.fst.bel hHeld)
      have HLT : Hid (∀ k, u9.ownBlock = some k → k < wr.heap.size) := fun k hk => (HM.out.fst.own.lt k hk).2
      have HO7 := hid (HO6.out.base HM.out.fst.bel)
      have HGE : Hid (∀ k, v40.ownBlock = some k → wr.heap.size ≤ k ∧ k < u40.heap.size) := fun k hk => HO6.out.own.lt k hk
      clear hHeld CR HCW0 HCW1 HM HO6
      obtain ⟨a10, c10, hv10, r10⟩ := rdc_of_owns HM2.out.snd.own (fun r hr => (HS.out r hr).1.ok)
      obtain ⟨a40, c40, hv40, r40⟩ := rdc_of_owns HO7.out.own (fun r hr => (HS6.out r hr).ok)
      have CA := hid (ralike_any a10 a40 last.length c10 R.length c40 last R u40 r10 r40 (fun x hx => (HS.out x hx).1))
      have H10 := hid r10
      clear r10 r40
      subst hv10
      subst hv40
      cases hal : alk last R
      · rw [hal] at CA
        have HN : Hid (mgo RR (L ++ last) R (ys.drop (i + 1)) = T) := by
          have := HST.out
          rw [if_neg (by rw [hal]; decide)] at this
          exact this
        go_wp2_with fail
        refine CA.out.mono ?_
        rintro e u41 ⟨rfl, q41, rfl⟩
        have hq41 := below_drewN (Below.refl u40.heap.size u40) q41
        have HM3 := hid (HM2.out.on hq41)
        have HO8 := hid (HO7.out.on hq41)
        have HSR := hid ((H10.out.on hq41).src (P := Try.prog) (t := 30) Try.underlying30)
        have hz41 : (u40.drewN q41).heap.size = u40.heap.size := rfl
        generalize u40.drewN q41 = u41 at HM3 HO8 HSR hz41 ⊢
        clear hq41 HM2 HO7 H10 CA
        have HFIN : Hid (∀ v' w', w'.ownsRow w1.heap.size 36 4 v' (L.length + last.length) (rccs L ++ rccs last) → u41.grownBy w' u9.ownBlock → (v'.ownBlock = u9.ownBlock ∨ v'.ownBlock = some u41.heap.size) → M1 w1 w' v' (.slice a40 R.length c40) (L ++ last) R) := fun v' w' o g hat => by
          refine ⟨HM3.out.fst.grown o g, ⟨HO8.out.own.kept g ?_, HM3.out.fst.bel.grown g HM3.out.fst.bel.size (fun k hk => (HM3.out.fst.own.lt k hk).1)⟩, fun k hk hk' => ?_⟩
          · cases hob : (Value.slice a40 R.length c40).ownBlock with
            | none => exact .inl rfl
            | some k =>
              refine .inr (fun e => ?_)
              have h1 := HLT.out k e.symm
              have h2 := (HGE.out k hob).1
              omega
          · have h2 := HGE.out k hk'
            rcases hat with e | e
            · have h1 := HLT.out k (by rw [← e]; exact hk)
              omega
            · rw [hk] at e
              have : k = u41.heap.size := Option.some.inj e
              omega
        go_wp2_with (at_builtin; refine wpList_append_own_at _ rfl (.tmp 70) (.tmp 71) 30 30 rfl w1.heap.size 36 i0 (.agg #[.int .i64 0, .int .i64 0, .int .i64 0, .int .i64 0]) 4 32 Try.underlying30 hi hz0 hz1 hz2 rfl _ _ _ rfl HM3.out.fst.own _ _ _ rfl HSR.out (by simp only [maxLen]; omega) (fits32 (by omega)) HM3.out.fst.bel.size ?_; intro v9 w9 o9 g9 t9; have H9 := hid (HFIN.out _ _ o9 g9 t9); clear o9 g9 t9 HFIN HSR)
        go_wp2
        go_roundw
        case rel => exact ⟨i + 1, L ++ last, R, by go_num, by omega, by rw [List.length_append]; omega, HP.out.1, HN.out, fun r hr => ⟨HS6.out r hr, fun z hz => by
          have := HP.out.2 r hr
          rw [HYI'.out] at hz
          cases hz
          omega⟩, H9.out⟩
        case measure => simp [numOf]; omega
      · rw [hal] at CA
        have HN : Hid (mgo RR L (grow (y' - y) last) (ys.drop (i + 1)) = T) := by
          have := HST.out
          rw [if_pos hal] at this
          exact this
        have hln : last ≠ [] := fun e => by rw [e] at hal; simp [alk] at hal
        obtain ⟨g, cg, hvg⟩ := HM2.out.snd.form hln
        have hag : a10 = some ⟨g, 0, none⟩ := by
          injection hvg
        clear hvg
        subst hag
        go_wp2_with fail
        refine CA.out.mono ?_
        rintro e u41 ⟨rfl, q41, rfl⟩
        have hq41 := below_drewN (Below.refl u40.heap.size u40) q41
        have HM3 := hid (HM2.out.on hq41)
        generalize u40.drewN q41 = u41 at HM3 ⊢
        clear hq41 HM2 HO7 H10 CA
        go_wp2
        go_loopw [13] (fun x wi => ∃ k : Nat, x = .int .i64 k ∧ k ≤ last.length ∧ M1 w1 wi u9 (.slice (some ⟨g, 0, none⟩) last.length c10) L (gk (y' - y) k last)) (fun x _ => last.length - (numOf x).toNat)
        case atStart => exact ⟨0, rfl, by omega, HM3.out⟩
        case round =>
          obtain ⟨k, rfl, hk, hM⟩ := hrel
          have HM4 := hid hM
          clear hM HM3
          have HGL := hid (gk_len (y' - y) k last)
          by_cases hgo2 : k < last.length
          · have e5 : decide ((k : Int) < last.length) = true := decide_eq_true (by omega)
            have e6 : (k : Int) < last.length := by omega
            obtain ⟨r, hr⟩ : ∃ r, last[k]? = some r := ⟨_, List.getElem?_eq_getElem hgo2⟩
            have HR := hid hr
            obtain ⟨⟨sx, sy, sw, sh2⟩, sb⟩ := HS.out r (List.mem_of_getElem? hr)
            have sb2 := sb y HYI.out
            obtain ⟨gl, gb, gel⟩ := HM4.out.snd.el HGL.out
            obtain ⟨gl3, d0, d1, d2, d3⟩ := gel k r (gk_at hr)
            have f11 : IntKind.i64.wrap (r.h + y') = r.h + y' := by rw [IntKind.wrap_i64]; omega
            have f12 : IntKind.i64.wrap (r.h + y' - y) = r.h + (y' - y) := by rw [IntKind.wrap_i64]; omega
            have fz2 : wr.drew.frozen? ⟨g, k * 4 + 3, none⟩ = false := HM4.out.snd.fz HGL.out _
            have hd3 : wr.drew.cell? ⟨g, k * 4 + 3, none⟩ = some (.int .i64 r.h) := d3
            have q0 := HC0.out.on HM4.out.fst.bel
            have q1 := HC1.out.on HM4.out.fst.bel
            have hSD : CI wr.drew g (k * 4 + 3) r.h ∧ CI wr.drew by_ (oy + i) y ∧ CI wr.drew by_ (oy + (i + 1)) y' := ⟨⟨gl3, d3⟩, ⟨q0.lt, q0.c⟩, ⟨q1.lt, q1.c⟩⟩
            have hby2 : by_ < w1.heap.size := HC0.out.lt
            have HM5 : Hid (M1 w1 (wr.setCell ⟨g, k * 4 + 3, none⟩ (.int .i64 (r.h + (y' - y)))).drew u9 (.slice (some ⟨g, 0, none⟩) last.length c10) L (gk (y' - y) (k + 1) last)) := by
              have h1 := HM4.out.snd.setH HGL.out (gk_at hr) (r.h + (y' - y))
              rw [gk_set hr] at h1
              refine M1.on ⟨HM4.out.fst.set (fun e => HM4.out.ne g e rfl) gb _, h1, HM4.out.ne⟩ (Below.refl _ _).drew
            have fz3 := HM4.out.snd.fz HGL.out
            have q0c := q0.c
            have q1c := q1.c
            have hne1 : ¬ g = by_ := by omega
            clear gel d0 d1 d2 q0 q1 hr sb hSD hd3 fz2
            go_upto_region 11 with fail
            go_region
            all_goals
              go_wp2
              go_roundw
              case rel => exact ⟨k + 1, by go_num, by omega, HM5.out⟩
              case measure => simp [numOf]; omega
          · have e5 : decide ((k : Int) < last.length) = false := decide_eq_false (by omega)
            obtain rfl : k = last.length := by omega
            have HM5 := hid HM4.out
            rw [gk_all] at HM5
            clear HM4
            go_wp2
            go_roundw
            case rel => exact ⟨i + 1, L, grow (y' - y) last, by go_num, by omega, by omega, by rw [grow, List.length_map]; omega, HN.out, fun r hr => by
              obtain ⟨q, hq, rfl⟩ := List.mem_map.1 hr
              obtain ⟨⟨sx, sy, sw, sh2⟩, sb⟩ := HS.out q hq
              have sb2 := sb y HYI.out
              refine ⟨⟨sx, sy, sw, by simp only; omega⟩, fun z hz => ?_⟩
              rw [HYI'.out] at hz
              cases hz
              simp only
              omega, HM5.out⟩
            case measure => simp [numOf]; omega
    · have e1 : decide ((i : Int) + 1 < ys.length) = false := decide_eq_false (by omega)
      have f10 : IntKind.i64.wrap ((i : Int) + 1) = (i : Int) + 1 := by rw [IntKind.wrap_i64]; omega
      have HE : Hid (L ++ last = T) := by
        have := HQ.out
        rcases Nat.lt_or_ge i ys.length with h | h
        · obtain ⟨z, hzi⟩ : ∃ z, ys[i]? = some z := ⟨_, List.getElem?_eq_getElem h⟩
          rw [drop_at hzi, List.drop_eq_nil_of_le (by omega), mgo] at this
          · exact this
          · intros; simp at *
        · rw [List.drop_eq_nil_of_le (by omega), mgo] at this
          · exact this
          · intros; simp at *
      obtain ⟨a10, c10, hv10, r10⟩ := rdc_of_owns HM.out.snd.own (fun r hr => (HS.out r hr).1.ok)
      subst hv10
      have HSR := hid (r10.src (P := Try.prog) (t := 30) Try.underlying30)
      have HFIN : Hid (∀ v' w', w'.ownsRow w1.heap.size 36 4 v' (L.length + last.length) (rccs L ++ rccs last) → wr.grownBy w' u9.ownBlock → OwC w w' v' T) := fun v' w' o g => by
        have := (HM.out.fst.grown o g).base HB1.out
        rw [HE.out] at this
        exact this
      have hsz := HM.out.fst.bel.size
      clear r10
      go_wp2_with (at_builtin; refine wpList_append_own_src _ rfl (.tmp 74) (.tmp 75) 30 30 rfl w1.heap.size 36 i0 (.agg #[.int .i64 0, .int .i64 0, .int .i64 0, .int .i64 0]) 4 32 Try.underlying30 hi hz0 hz1 hz2 rfl _ _ _ rfl HM.out.fst.own _ _ _ rfl HSR.out (by simp only [maxLen]; omega) (fits32 (by omega)) hsz ?_; intro v9 w9 o9 g9; have H9 := hid (HFIN.out _ _ o9 g9); clear o9 g9 HFIN HSR)
      go_wp2
      go_ret
      exact ⟨_, rfl, H9.out⟩
end Go.Proofs.Ytlkodgmnhphfcaa
