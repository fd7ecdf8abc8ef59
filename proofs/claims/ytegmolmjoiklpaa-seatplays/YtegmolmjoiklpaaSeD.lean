/- The program's At. -/
import Derived.Test.YtegmolmjoiklpaaSeC
namespace Go.Proofs.Ytegmolmjoiklpaa
open Go Go.RowKit Go.Shelf
attribute [local go_sem] Oper.semAt_some

theorem atN {hs : List Ht} {k : Nat} {x y : Int} {t : Ht} (hN : ∀ (i : Nat) (t : Ht), i < k → hs.reverse[i]? = some t → t.hit x y = false) (ht : hs.reverse[k]? = some t) (hh : t.hit x y = false) : ∀ (i : Nat) (t : Ht), i < k + 1 → hs.reverse[i]? = some t → t.hit x y = false := fun i u hi hu => by
  rcases Nat.lt_or_ge i k with h | h
  · exact hN i u h hu
  · obtain rfl : i = k := by omega
    rw [ht] at hu
    cases hu
    exact hh
theorem hp_set {U : World} {k : Nat} {o : Obj} (j : Nat) (v : Value) (h : U.heap[k]? = some o) (hn : k ≠ j) : (U.setCell ⟨j, 0, none⟩ v).heap[k]? = some o := (heap_setCell_other _ _ _ _ hn).trans h
theorem below_putObj {B : Nat} (w : World) (k : Nat) (o : Obj) (hk : B ≤ k) : Below B w (w.putObj k o) :=
  ⟨rfl, rfl, rfl, by simp, fun j hj => World.putObj_heap_other (by omega)⟩
/-- What At's answer is told from. -/
structure AtS (w : World) (p : Nat) (t : Ht) (x y : Int) (u : World) : Prop where
  b : u.heap[p]? = some (.cells (htv t) 61 (0, 0))
  b0 : u.heap[w.heap.size]? = some (.cells #[.int .i64 x] 3 (0, 0))
  b1 : u.heap[w.heap.size + 1]? = some (.cells #[.int .i64 y] 3 (0, 0))
theorem AtS.set {w : World} {p : Nat} {t : Ht} {x y : Int} {u : World} (h : AtS w p t x y u) {j : Nat} (h1 : p ≠ j) (h2 : w.heap.size ≠ j) (h3 : w.heap.size + 1 ≠ j) (v : Value) : AtS w p t x y (u.setCell ⟨j, 0, none⟩ v) :=
  ⟨(heap_setCell_other _ _ _ _ h1).trans h.b, (heap_setCell_other _ _ _ _ h2).trans h.b0, (heap_setCell_other _ _ _ _ h3).trans h.b1⟩
theorem AtS.cells {w : World} {p : Nat} {t : Ht} {x y : Int} {u : World} (h : AtS w p t x y u) : u.cell? ⟨p, 0, none⟩ = some (.int .i64 t.s) ∧ u.cell? ⟨p, 1, none⟩ = some (.int .i64 t.x) ∧ u.cell? ⟨p, 2, none⟩ = some (.int .i64 t.y) ∧ u.cell? ⟨w.heap.size, 0, none⟩ = some (.int .i64 x) ∧ u.cell? ⟨w.heap.size + 1, 0, none⟩ = some (.int .i64 y) := by
  obtain ⟨c0, c1, c2, _⟩ := hcells h.b
  exact ⟨c0, c1, c2, hcell1 h.b0, hcell1 h.b1⟩

set_option maxRecDepth 100000 in
set_option maxHeartbeats 2000000 in
theorem sat_any (a : Option Addr) (n c : Nat) (hs : List Ht) (x y : Int) (hx : -9223372036854775808 ≤ x ∧ x ≤ 9223372036854775807) (hy : -9223372036854775808 ≤ y ∧ y ≤ 9223372036854775807) (w : World) (h : RdH w a n c hs) :
    Calls Try.prog 12 #[.slice a n c, .int .i64 x, .int .i64 y] w fun e w' => e = .returned (.tuple #[.int .i64 (atL hs x y).1, .int .i64 (atL hs x y).2.1, .int .i64 (atL hs x y).2.2]) ∧ Below w.heap.size w w' := by
  refine (callsIn_wide (n := 6)).1 ?_
  have HS := hid h
  clear h
  refine callsIn_of_wp_marks Try.func12 rfl trivial ?_ rfl
  simp only [Try.ntmps12, List.size_toArray, List.length_cons, List.length_nil, Nat.reduceAdd, Nat.reduceSub, Array.replicate_succ, Array.replicate_zero, List.push_toArray, List.append_toArray, List.nil_append, List.cons_append]
  gi_wp2_with (refine ⟨trivial, ?_⟩; gi_at_call 26; refine (callsIn_wide.2 (back_any a n c _)).mono ?_; rintro e W1 ⟨rfl, rfl⟩)
  obtain ⟨W0, hW0⟩ : ∃ W0, W0 = (((((w.alloc (.cells #[.int .i64 x] 3)).alloc (.cells #[.int .i64 y] 3)).alloc (.cells #[.int .i64 0] 3)).alloc (.cells #[.int .i64 0] 3)).alloc (.cells #[.int .i64 0] 3)).alloc (.cells #[.slice a n c] 39) := ⟨_, rfl⟩
  have hs0 : W0.heap.size = w.heap.size + 1 + 1 + 1 + 1 + 1 + 1 := by rw [hW0]; simp
  have hA0 : AtI w W0 x y 0 0 0 (.slice a n c) := by
    rw [hW0]
    exact ⟨((((((Below.refl _ w).alloc (Nat.le_refl _) _).alloc (by simp) _).alloc (by simp; omega) _).alloc (by simp; omega) _).alloc (by simp; omega) _).alloc (by simp; omega) _,
      hp_ol (hp_ol (hp_ol (hp_ol (hp_ol (hp_nw w _ rfl) _) _) _) _) _, hp_ol (hp_ol (hp_ol (hp_ol (hp_nw _ _ (by simp)) _) _) _) _, hp_ol (hp_ol (hp_ol (hp_nw _ _ (by simp)) _) _) _, hp_ol (hp_ol (hp_nw _ _ (by simp)) _) _, hp_ol (hp_nw _ _ (by simp)) _, hp_nw _ _ (by simp)⟩
  rw [← hW0]
  clear hW0
  refine wp_range_cap (gf := 37) (bd := #[]) (cap := #[.pointer (some ⟨w.heap.size + 1 + 1 + 1 + 1 + 1, 0, none⟩)]) rfl (enters_of Try.func37 (by kernel_rfl) rfl) (back_hands (w.heap.size + 1 + 1 + 1 + 1 + 1) a n c hs) (fun _ => rfl)
    (fun k X W => X = [] ∧ AtI w W x y 0 0 0 (.slice a n c) ∧ ∀ (i : Nat) (t : Ht), i < k → hs.reverse[i]? = some t → t.hit x y = false)
    (fun co W => co = .ret ∧ AtI w W x y (atL hs x y).1 (atL hs x y).2.1 (atL hs x y).2.2 (.slice a n c))
    (fun k X W W' h hb => ⟨h.1, h.2.1.on (hb.below (by have := h.2.1.lt; omega)) (by omega), h.2.2⟩)
    (fun co W W' h hb => ⟨h.1, h.2.on (hb.below (by have := h.2.lt; omega)) (by omega)⟩)
    (fun k X W h => ⟨by rw [Lib.cell_of_heap h.2.1.b5]; rfl, HS.out.on h.2.1.bel⟩)
    ⟨rfl, hA0, fun i t hi => absurd hi (by omega)⟩ ?round ?done ?stop
  case round =>
    rintro m l k X ⟨z, t⟩ W ⟨rfl, hA, hN⟩ ht hlt _
    have ht := bwR_hit ht
    have HR := hid (HS.out.on hA.bel)
    have HA := hid hA
    have HN := hid hN
    have HT := hid ht
    clear hA hN ht
    simp only [encB, htv]
    gi_wp2
    refine ⟨rnd_below (bel_nw W _) _ _, fun W2 hkp hit => ?_⟩
    have hm : t ∈ hs := List.mem_reverse.1 (List.mem_of_getElem? HT.out)
    have ok := HS.out.ok t hm
    have hA2 : AtI w W2 x y 0 0 0 (.slice a n c) := (HA.out.on (bel_nw W _) HA.out.lt).on (hit.below (by have := HA.out.lt; simp; omega)) (by omega)
    have hr2 : RdM 4 W2 t.a t.n t.c t.l := ((HR.out.on (bel_nw W _)).itr hit).reg t hm
    have hb2 := hkp.var (hp_nw W (.cells (htv t) 61) rfl) (by simp; omega)
    have HK := hid hkp
    have HI := hid hit
    have hlW : w.heap.size + 1 + 1 + 1 + 1 + 1 + 1 + 1 < W.heap.size := by omega
    clear hkp hit hlt
    obtain ⟨c0, c1, c2, c3, c4, c5, c6⟩ := hcells hb2
    have d0 := hcell1 hA2.b0
    have d1 := hcell1 hA2.b1
    have HA2 := hid hA2
    have HB2 := hid hb2
    have HO := hid ok
    have hl2 := hA2.lt
    clear hA2 hb2
    have CV := hid (covers_any t ok x y hx hy)
    simp only [htv] at CV
    cases hc : t.cov x y
    · rw [hc] at CV
      have HH : Hid (t.hit x y = false) := by rw [Hid, Ht.hit, hc]; rfl
      clear hc
      gi_wp2_with fail
      refine ⟨trivial, (fun q => nomatch q), (CallsIn.inRound l (callsIn_wide.2 (CV.out _))).mono ?_⟩
      rintro e W3 ⟨rfl, hb3⟩
      gi_wp2
      refine ⟨trivial, ?_⟩
      gi_wp2
      exact ⟨rnd_below hb3 _ _, [], by simp, rfl, HA2.out.on hb3 hl2, atN HN.out HT.out HH.out⟩
    · rw [hc] at CV
      have hn := Ht.near HO.out hc
      have HC := hid hc
      obtain ⟨n1, n2⟩ := hn
      have HRG := hid hr2
      have TK := hid (fun u hu => takes_any t ok (x - t.x) (y - t.y) (by omega) (by omega) u (HRG.out.on hu))
      simp only [htv] at TK
      clear hc hr2
      cases hk : t.tks (x - t.x) (y - t.y)
      · rw [hk] at TK
        have HH : Hid (t.hit x y = false) := by rw [Hid, Ht.hit, HC.out, hk]; rfl
        clear hk
        gi_wp2_with fail
        refine ⟨trivial, (fun q => nomatch q), (CallsIn.inRound l (callsIn_wide.2 (CV.out _))).mono ?_⟩
        rintro e W3 ⟨rfl, hb3⟩
        have hb3' := (hb3.block _ (Array.getElem?_eq_some_iff.1 HB2.out).1).trans HB2.out
        have HB3 := hid hb3'
        clear CV c0 c1 c2 c3 c4 c5 c6 d0 d1
        obtain ⟨c0, c1, c2, c3, c4, c5, c6⟩ := hcells hb3'
        have d0 := hcell1 (HA2.out.on hb3 hl2).b0
        have d1 := hcell1 (HA2.out.on hb3 hl2).b1
        clear hb3'
        gi_wp2_with fail
        refine ⟨trivial, (fun q => nomatch q), (CallsIn.inRound l (callsIn_wide.2 (TK.out _ hb3))).mono ?_⟩
        rintro e W4 ⟨rfl, hb4⟩
        gi_wp2
        have hb5 := Below.on hb3 hb4
        exact ⟨rnd_below hb5 _ _, [], by simp, rfl, HA2.out.on hb5 hl2, atN HN.out HT.out HH.out⟩
      · rw [hk] at TK
        have HH : Hid (atL hs x y = (t.s, x - t.x, y - t.y)) := atR_some HT.out (by rw [Ht.hit, HC.out, hk]; rfl) HN.out
        clear hk
        gi_wp2_with fail
        refine ⟨trivial, (fun q => nomatch q), (CallsIn.inRound l (callsIn_wide.2 (CV.out _))).mono ?_⟩
        rintro e W3 ⟨rfl, hb3⟩
        have hb3' := (hb3.block _ (Array.getElem?_eq_some_iff.1 HB2.out).1).trans HB2.out
        have HB3 := hid hb3'
        clear CV c0 c1 c2 c3 c4 c5 c6 d0 d1
        obtain ⟨c0, c1, c2, c3, c4, c5, c6⟩ := hcells hb3'
        have d0 := hcell1 (HA2.out.on hb3 hl2).b0
        have d1 := hcell1 (HA2.out.on hb3 hl2).b1
        clear hb3'
        gi_wp2_with fail
        refine ⟨trivial, (fun q => nomatch q), (CallsIn.inRound l (callsIn_wide.2 (TK.out _ hb3))).mono ?_⟩
        rintro e W4 ⟨rfl, hb4⟩
        have hb4' := (hb4.block _ (Array.getElem?_eq_some_iff.1 HB3.out).1).trans HB3.out
        have hb5 := Below.on hb3 hb4
        have hA4 := HA2.out.on hb5 hl2
        have HB5 := hid hb5
        have HA4 := hid hA4
        have HB4 := hid hb4'
        clear TK c0 c1 c2 c3 c4 c5 c6 d0 d1 hb3 hb4 hb5 hA4 hb4'
        gi_wp2
        have hA5 : AtI w W4.drew x y 0 0 0 (.slice a n c) := HA4.out.on (Below.refl _ _).drew HA4.out.lt
        have hS5 : AtS w W.heap.size t x y W4.drew := ⟨HB4.out, hA5.b0, hA5.b1⟩
        have hw1 : IntKind.i64.wrap (x - t.x) = x - t.x := by rw [IntKind.wrap_i64]; omega
        have hw2 : IntKind.i64.wrap (y - t.y) = y - t.y := by rw [IntKind.wrap_i64]; omega
        have hA6 : Hid (AtI w (((W4.drew.setCell ⟨w.heap.size + 1 + 1, 0, none⟩ (.int .i64 t.s)).setCell ⟨w.heap.size + 1 + 1 + 1, 0, none⟩ (.int .i64 (x - t.x))).setCell ⟨w.heap.size + 1 + 1 + 1 + 1, 0, none⟩ (.int .i64 (y - t.y))) x y (atL hs x y).1 (atL hs x y).2.1 (atL hs x y).2.2 (.slice a n c)) := by
          rw [Hid, HH.out]
          exact hA5.set t.s (x - t.x) (y - t.y)
        have HF : Hid (Rnd W0.heap.size [] W2 W4.drew) := rnd_below (Below.on HB5.out (Below.refl _ _).drew) _ _
        have HA5 := hid hA5
        have HS5 := hid hS5
        clear hA5 hS5
        refine in_region_held_drew (S := AtS w W.heap.size t x y) (by kernel_rfl) (by rintro ⟨_, _, h⟩; exact h) (by kernel_rfl) ?hh (fun hHeld => ?_)
        case hh => exact (HS5.out)
        refine wpAnyH_take (i := 0) (v := ?_) rfl (by kernel_rfl) (by kernel_rfl) (by kernel_rfl) (fun _ _ _ h => h) (Or.inl ⟨by kernel_rfl, ?hy0⟩) (by assumption) ?_
        case hy0 => (intro w hSw; (try dsimp only at hSw); obtain ⟨c0, c1, c2, d0, d1⟩ := hSw.cells; go_simp; try with_reducible rfl)
        try simp only [Act.put, List.getElem_toArray, List.getElem_cons_zero, List.setIfInBounds_toArray, List.set_cons_zero, List.set_cons_succ]
        refine wpAnyH_take (i := 1) (v := ?_) rfl (by kernel_rfl) (by kernel_rfl) (by kernel_rfl) (fun _ _ _ h => h) (Or.inl ⟨by kernel_rfl, ?hy1⟩) (by assumption) ?_
        case hy1 => (intro w hSw; (try dsimp only at hSw); obtain ⟨c0, c1, c2, d0, d1⟩ := hSw.cells; go_simp; try with_reducible rfl)
        try simp only [Act.put, List.getElem_toArray, List.getElem_cons_zero, List.getElem_cons_succ, List.setIfInBounds_toArray, List.set_cons_zero, List.set_cons_succ]
        refine wpAnyH_take (i := 2) (v := ?_) rfl (by kernel_rfl) (by kernel_rfl) (by kernel_rfl) (fun _ _ _ h => h) (Or.inl ⟨by kernel_rfl, ?hy2⟩) (by assumption) ?_
        case hy2 => (intro w hSw; (try dsimp only at hSw); obtain ⟨c0, c1, c2, d0, d1⟩ := hSw.cells; go_simp; try with_reducible rfl)
        try simp only [Act.put, List.getElem_toArray, List.getElem_cons_zero, List.getElem_cons_succ, List.setIfInBounds_toArray, List.set_cons_zero, List.set_cons_succ]
        refine wpAnyH_take (i := 3) (v := ?_) rfl (by kernel_rfl) (by kernel_rfl) (by kernel_rfl) (fun _ _ _ h => h) (Or.inl ⟨by kernel_rfl, ?hy3⟩) (by assumption) ?_
        case hy3 => (intro w hSw; (try dsimp only at hSw); obtain ⟨c0, c1, c2, d0, d1⟩ := hSw.cells; go_simp; try with_reducible rfl)
        try simp only [Act.put, List.getElem_toArray, List.getElem_cons_zero, List.getElem_cons_succ, List.setIfInBounds_toArray, List.set_cons_zero, List.set_cons_succ]
        refine wpAnyH_take (i := 4) (v := ?_) rfl (by kernel_rfl) (by kernel_rfl) (by kernel_rfl) (fun _ _ _ h => h) (Or.inl ⟨by kernel_rfl, ?hy4⟩) (by assumption) ?_
        case hy4 => (intro w hSw; (try dsimp only at hSw); obtain ⟨c0, c1, c2, d0, d1⟩ := hSw.cells; go_simp; try with_reducible rfl)
        try simp only [Act.put, List.getElem_toArray, List.getElem_cons_zero, List.getElem_cons_succ, List.setIfInBounds_toArray, List.set_cons_zero, List.set_cons_succ]
        refine wpAnyH_take (i := 5) (v := ?_) rfl (by kernel_rfl) (by kernel_rfl) (by kernel_rfl) (fun _ _ _ h => h) (Or.inl ⟨by kernel_rfl, ?hy5⟩) (by assumption) ?_
        case hy5 => (intro w hSw; (try dsimp only at hSw); obtain ⟨c0, c1, c2, d0, d1⟩ := hSw.cells; go_simp; try with_reducible rfl)
        try simp only [Act.put, List.getElem_toArray, List.getElem_cons_zero, List.getElem_cons_succ, List.setIfInBounds_toArray, List.set_cons_zero, List.set_cons_succ]
        refine wpAnyH_take (i := 6) (v := ?_) rfl (by kernel_rfl) (by kernel_rfl) (by kernel_rfl) (fun _ _ _ h => h) (Or.inl ⟨by kernel_rfl, ?hy6⟩) (by assumption) ?_
        case hy6 => (intro w hSw; (try dsimp only at hSw); obtain ⟨c0, c1, c2, d0, d1⟩ := hSw.cells; go_simp; try with_reducible rfl)
        try simp only [Act.put, List.getElem_toArray, List.getElem_cons_zero, List.getElem_cons_succ, List.setIfInBounds_toArray, List.set_cons_zero, List.set_cons_succ]
        refine wpAnyH_take (i := 7) (v := ?_) rfl (by kernel_rfl) (by kernel_rfl) (by kernel_rfl) (fun _ _ _ h => h) (Or.inl ⟨by kernel_rfl, ?hy7⟩) (by assumption) ?_
        case hy7 => (intro w hSw; (try dsimp only at hSw); obtain ⟨c0, c1, c2, d0, d1⟩ := hSw.cells; go_simp; try with_reducible rfl)
        try simp only [Act.put, List.getElem_toArray, List.getElem_cons_zero, List.getElem_cons_succ, List.setIfInBounds_toArray, List.set_cons_zero, List.set_cons_succ]
        refine wpAnyH_take (i := 8) (v := ?_) rfl (by kernel_rfl) (by kernel_rfl) (by kernel_rfl) (fun _ _ _ h => h) (Or.inl ⟨by kernel_rfl, ?hy8⟩) (by assumption) ?_
        case hy8 => (intro w hSw; (try dsimp only at hSw); obtain ⟨c0, c1, c2, d0, d1⟩ := hSw.cells; go_simp; try with_reducible rfl)
        try simp only [Act.put, List.getElem_toArray, List.getElem_cons_zero, List.getElem_cons_succ, List.setIfInBounds_toArray, List.set_cons_zero, List.set_cons_succ]
        refine wpAnyH_take (i := 9) (v := ?_) rfl (by kernel_rfl) (by kernel_rfl) (by kernel_rfl) (fun _ _ _ h => h) (Or.inl ⟨by kernel_rfl, ?hy9⟩) (by assumption) ?_
        case hy9 => (intro w hSw; (try dsimp only at hSw); obtain ⟨c0, c1, c2, d0, d1⟩ := hSw.cells; go_simp; try with_reducible rfl)
        try simp only [Act.put, List.getElem_toArray, List.getElem_cons_zero, List.getElem_cons_succ, List.setIfInBounds_toArray, List.set_cons_zero, List.set_cons_succ]
        refine wpAnyH_ready (rs := [10]) (by kernel_rfl) (by simp) ?_
        refine AllReadyH.cons rfl (fun K hK => ?_) AllReadyH.nil
        generalize W4.drew = V0 at HA5 HS5 hA6 HF hHeld hK ⊢
        have k2 := hcell1 HA5.out.b2
        have f2 := Lib.frozen_of_heap HA5.out.b2 0
        go_simp
        refine hK.out _ _ (HS5.out.set (j := w.heap.size + 1 + 1) (by omega) (by omega) (by omega) (.int .i64 t.s)) (fun _ => ?_)
        clear hK K hHeld k2 f2
        have hHeld := HS5.out.set (j := w.heap.size + 1 + 1) (by omega) (by omega) (by omega) (.int .i64 t.s)
        refine wpAnyH_ready (rs := [11]) (by kernel_rfl) (by simp) ?_
        refine AllReadyH.cons rfl (fun K hK => ?_) AllReadyH.nil
        have k2 := hcell1 (hp_set (w.heap.size + 1 + 1) (.int .i64 t.s) HA5.out.b3 (by omega))
        have f2 := Lib.frozen_of_heap (hp_set (w.heap.size + 1 + 1) (.int .i64 t.s) HA5.out.b3 (by omega)) 0
        go_simp
        refine hK.out _ _ (hHeld.set (j := w.heap.size + 1 + 1 + 1) (by omega) (by omega) (by omega) (.int .i64 (x - t.x))) (fun _ => ?_)
        have hHeld2 := hHeld.set (j := w.heap.size + 1 + 1 + 1) (by omega) (by omega) (by omega) (.int .i64 (x - t.x))
        clear hK K hHeld k2 f2
        have hHeld := hHeld2
        clear hHeld2
        refine wpAnyH_ready (rs := [12]) (by kernel_rfl) (by simp) ?_
        refine AllReadyH.cons rfl (fun K hK => ?_) AllReadyH.nil
        have k2 := hcell1 (hp_set (w.heap.size + 1 + 1 + 1) (.int .i64 (x - t.x)) (hp_set (w.heap.size + 1 + 1) (.int .i64 t.s) HA5.out.b4 (by omega)) (by omega))
        have f2 := Lib.frozen_of_heap (hp_set (w.heap.size + 1 + 1 + 1) (.int .i64 (x - t.x)) (hp_set (w.heap.size + 1 + 1) (.int .i64 t.s) HA5.out.b4 (by omega)) (by omega)) 0
        go_simp
        refine hK.out _ _ (hHeld.set (j := w.heap.size + 1 + 1 + 1 + 1) (by omega) (by omega) (by omega) (.int .i64 (y - t.y))) (fun _ => ?_)
        clear hK K hHeld k2 f2
        refine wpAnyH_done (by kernel_rfl) ?_ _
        gi_wp2
        exact ⟨(((by have := HF.out; rwa [hs0] at this : Rnd (w.heap.size + 1 + 1 + 1 + 1 + 1 + 1) [] W2 V0).set (.inl (by omega)) _ _).set (.inl (by omega)) _ _).set (.inl (by omega)) _ _, rfl, hA6.out⟩
  case done =>
    rintro D X W hD ⟨rfl, hA, hN⟩ _ hK
    have HE : Hid (atL hs x y = (0, 0, 0)) := atR_none fun i t ht => hN i t (by rw [bwR_length]; exact (List.getElem?_eq_some_iff.1 ht).1) ht
    have k0 := hcell1 hA.b2
    have k1 := hcell1 hA.b3
    have k2 := hcell1 hA.b4
    have f0 := Lib.frozen_of_heap hA.b2 0
    have f1 := Lib.frozen_of_heap hA.b3 0
    have f2 := Lib.frozen_of_heap hA.b4 0
    have HA := hid hA
    have HK := hid hK
    clear hA hN hK
    gi_wp2
    have hA2 := HA.out.set 0 0 0
    have hK2 : (((W.setCell ⟨w.heap.size + 1 + 1, 0, none⟩ (.int .i64 0)).setCell ⟨w.heap.size + 1 + 1 + 1, 0, none⟩ (.int .i64 0)).setCell ⟨w.heap.size + 1 + 1 + 1 + 1, 0, none⟩ (.int .i64 0)).heap[D]? = some (.deferred (some [])) := hp_set _ _ (hp_set _ _ (hp_set _ _ HK.out (by omega)) (by omega)) (by omega)
    refine ⟨by simp, .inl ⟨_, _, rfl, run_takeDeferred hK2, ?_⟩⟩
    have hA3 := hA2.on (below_putObj (B := W0.heap.size) _ D (.deferred none) hD) (by omega)
    have k0 := hcell1 hA3.b2
    have k1 := hcell1 hA3.b3
    have k2 := hcell1 hA3.b4
    rw [HE.out]
    refine ⟨.tuple #[.int .i64 0, .int .i64 0, .int .i64 0], ?_, rfl, hA3.bel⟩
    simp [results, Try.f12, go_sem, k0, k1, k2]
  case stop =>
    rintro D co W hD ⟨rfl, hA⟩ hK
    gi_wp2
    refine ⟨by simp, .inl ⟨_, _, rfl, run_takeDeferred hK, ?_⟩⟩
    have hA2 := hA.on (below_putObj (B := W0.heap.size) _ D (.deferred none) hD) (by omega)
    have k0 := hcell1 hA2.b2
    have k1 := hcell1 hA2.b3
    have k2 := hcell1 hA2.b4
    refine ⟨.tuple #[.int .i64 (atL hs x y).1, .int .i64 (atL hs x y).2.1, .int .i64 (atL hs x y).2.2], ?_, rfl, hA2.bel⟩
    simp [results, Try.f12, go_sem, k0, k1, k2]
end Go.Proofs.Ytegmolmjoiklpaa
