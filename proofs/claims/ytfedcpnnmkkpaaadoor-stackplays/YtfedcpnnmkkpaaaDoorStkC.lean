/- The program's windows above one another: All, down, Top, Next. -/
import Derived.Test.YtfedcpnnmkkpaaaDoorStkB
import Derived.Test.YtfedcpnnmkkpaaaDoorClnZ
import Derived.Test.YtfedcpnnmkkpaaaDoorLibR
import Derived.RangeFuncFrom
import Derived.RangeFuncCalls
import Derived.RangeFuncLeaves
import Derived.Shelf.Abstract
import Derived.Shelf.RegionOpen
import Derived.WalkKit
import Derived.OwnWalkIn
import Derived.TacticsInMore
import Derived.LoopNIn
import Derived.LoopIn
namespace Go.Proofs.YtfedcpnnmkkpaaaDoor
open Go Go.RowKit Go.Shelf
attribute [local go_sem] Oper.semAt_some

variable {w w' : World} {p : Nat} {l m : List Int} {a : Option Addr} {n c : Nat}
set_option maxRecDepth 100000 in
theorem kall_any (h : Sk w p l) (hl : l.length ≤ 1000000) :
    Calls Tryd.prog 12 #[.pointer (some ⟨p, 0, none⟩)] w fun e w' => ∃ v, e = .returned v ∧ OwZ w w' v l := by
  have lp := h.lt
  obtain ⟨a, n, c, h1, h2⟩ := h.ex
  have c0 : w.cell? ⟨p, 0, none⟩ = some (.slice a n c) := by rw [Lib.cell_of_heap h1]; rfl
  have HT := hid (sclone_any a n c l w h2 (by rw [← h2.len]; exact hl))
  clear h h1 h2
  go_enter Tryd.func12, Tryd.ntmps12
  go_wp2_with fail
  refine HT.out.mono ?_
  rintro e w1 ⟨v, rfl, ho⟩
  have HO := hid ho
  clear ho HT
  go_wp2
  go_ret
  exact ⟨_, rfl, HO.out⟩

/-- The numbers of l, from the uppermost one on, as down hands them out. -/
def encI (x : Int) : Array Value := #[.int .i64 x]
theorem Sk.cellAt (h : Sk w p l) {k : Nat} {x : Int} (hx : l.reverse[k]? = some x) : ∃ b off c, w.cell? ⟨p, 0, none⟩ = some (.slice (some ⟨b, off, none⟩) l.length c) ∧ k < l.length ∧ l.length ≤ 9223372036854775807 ∧ p < w.heap.size ∧ b < w.heap.size ∧ w.cell? ⟨b, off + (l.length - 1 - k), none⟩ = some (.int .i64 x) := by
  obtain ⟨a, n, c, h1, h2⟩ := h.ex
  have hk : k < l.length := by simpa using (List.getElem?_eq_some_iff.1 hx).1
  rw [List.getElem?_reverse hk] at hx
  obtain ⟨b, off, z, rfl, hb, hz, hc⟩ := h2.at_ (j := l.length - 1 - k) (by rw [← h2.len]; omega)
  rw [hx] at hz
  cases hz
  have := h2.small.1
  rw [← h2.len] at this
  exact ⟨b, off, c, by rw [Lib.cell_of_heap h1, h2.len]; rfl, hk, this, h.lt, hb, hc⟩
theorem Sk.cellOf (h : Sk w p l) : ∃ a c, w.cell? ⟨p, 0, none⟩ = some (.slice a l.length c) ∧ l.length ≤ 9223372036854775807 ∧ p < w.heap.size := by
  obtain ⟨a, n, c, h1, h2⟩ := h.ex
  have := h2.small.1
  rw [← h2.len] at this
  exact ⟨a, c, by rw [Lib.cell_of_heap h1, h2.len]; rfl, this, h.lt⟩

set_option maxRecDepth 100000 in
set_option maxHeartbeats 2000000 in
theorem down_hands (p : Nat) (l : List Int) (mm : Nat) : Hands Tryd.prog 21 #[.pointer (some ⟨p, 0, none⟩)] mm encI l.reverse (fun W => Sk W p l) := fun r J Jx W hK hY h0 => by
  obtain ⟨a0, cc, c0, hn, lp⟩ := (hK 0 W h0).cellOf
  obtain ⟨N, hN⟩ : ∃ N, N = l.length := ⟨_, rfl⟩
  have HL : Hid (l.reverse.length = N) := by rw [Hid, List.length_reverse, hN]
  have HK := hid hK
  have HY := hid hY
  have HC : Hid (∀ k W1, J k W1 → k < N → ∃ x b off c, l.reverse[k]? = some x ∧ W1.cell? ⟨p, 0, none⟩ = some (.slice (some ⟨b, off, none⟩) N c) ∧ p < W1.heap.size ∧ b < W1.heap.size ∧ W1.cell? ⟨b, off + (N - 1 - k), none⟩ = some (.int .i64 x)) := fun k W1 hJ hk => by
    obtain ⟨x, hx⟩ : ∃ x, l.reverse[k]? = some x := ⟨_, List.getElem?_eq_getElem (by rw [List.length_reverse]; omega)⟩
    obtain ⟨b, off, c, h1, _, _, h4, h5, h6⟩ := (hK k W1 hJ).cellAt hx
    exact ⟨x, b, off, c, hx, by rw [hN]; exact h1, h4, h5, by rw [hN]; exact h6⟩
  rw [← hN] at c0 hn
  clear hK hY hN
  refine callsIn_of_wp Tryd.func21 rfl trivial ?_ rfl
  simp only [Tryd.ntmps21, List.size_toArray, List.length_cons, List.length_nil, Nat.reduceAdd, Nat.reduceSub, Array.replicate_succ, Array.replicate_zero, List.push_toArray, List.append_toArray, List.nil_append, List.cons_append]
  gi_wp2
  gi_loopw [4] (fun i wr => ∃ k : Nat, i = .int .i64 ((N : Int) - 1 - k) ∧ k ≤ N ∧ J k wr) (fun i _ => (numOf i + 1).toNat)
  case atStart => exact ⟨0, by simp, by omega, h0⟩
  case round =>
    obtain ⟨k, rfl, hk, hj⟩ := hrel
    by_cases hgo : k < N
    · obtain ⟨x, b, off, c, hx, c1, l1, l2, c2⟩ := HC.out k wr hj hgo
      obtain ⟨j, hj'⟩ : ∃ j : Nat, j = N - 1 - k := ⟨_, rfl⟩
      have ej : (N : Int) - 1 - k = j := by omega
      rw [← hj'] at c2
      obtain ⟨fn, tmps, assign, body, hy, hR⟩ := HY.out k x wr hj hx
      dsimp only [encI] at hy
      have HR := hid hR
      have ej2 : (j : Int) - 1 = (N : Int) - 1 - ((k + 1 : Nat) : Int) := by omega
      have hjN : j < N := by omega
      have e1 : decide ((0 : Int) ≤ j) = true := decide_eq_true (by omega)
      rw [ej]
      have HE := hid ej
      have HE2 := hid ej2
      clear hR hx hj' ej ej2
      gi_wp2
      refine HR.out.mono ?_
      rintro e W3 (⟨rfl, hJ3⟩ | ⟨rfl, hJx3⟩)
      · gi_wp2
        go_roundw
        case rel => exact ⟨k + 1, by rw [← HE2.out], by omega, hJ3⟩
        case measure => simp [numOf]
      · gi_wp2
        refine bodyPost_ret (results_none rfl _ _ _) rfl ?_
        exact ⟨⟨_, rfl⟩, .inr hJx3⟩
    · obtain rfl : k = N := by omega
      have e1 : decide ((0 : Int) ≤ (k : Int) - 1 - k) = false := decide_eq_false (by omega)
      gi_wp2
      go_end0
      exact ⟨⟨_, rfl⟩, .inl (by rw [HL.out]; exact hj)⟩

/-- A block of one cell, with what lay below it. -/
def Bx1 (w W : World) (g : Nat) (v : Value) (T : Nat) : Prop := Below w.heap.size w W ∧ W.heap[g]? = some (.cells #[v] T (0, 0))
theorem Bx1.on {w W W' : World} {g B : Nat} {v : Value} {T : Nat} (h : Bx1 w W g v T) (hb : Below B W W') (hg : g < B) (hw : w.heap.size ≤ B) : Bx1 w W' g v T := ⟨h.1.trans (hb.mono hw), (hb.block g hg).trans h.2⟩
theorem Bx1.cell {w W : World} {g : Nat} {v : Value} {T : Nat} (h : Bx1 w W g v T) : W.cell? ⟨g, 0, none⟩ = some v := by rw [Lib.cell_of_heap h.2]; rfl
theorem Bx1.fz {w W : World} {g : Nat} {v : Value} {T : Nat} (h : Bx1 w W g v T) : W.frozen? ⟨g, 0, none⟩ = false := Lib.frozen_of_heap h.2 0
theorem Bx1.lt {w W : World} {g : Nat} {v : Value} {T : Nat} (h : Bx1 w W g v T) : g < W.heap.size := (Array.getElem?_eq_some_iff.1 h.2).1
theorem Bx1.set {w W : World} {g : Nat} {v : Value} {T : Nat} (h : Bx1 w W g v T) (hg : w.heap.size ≤ g) (u : Value) : Bx1 w (W.setCell ⟨g, 0, none⟩ u) g u T :=
  ⟨h.1.setCell (p := ⟨g, 0, none⟩) hg _, heap_setCell_same _ g 0 _ _ _ h.2⟩
theorem Bx1.other {w W : World} {g k : Nat} {v : Value} {T : Nat} (h : Bx1 w W g v T) (hk : w.heap.size ≤ k) (hn : g ≠ k) (u : Value) : Bx1 w (W.setCell ⟨k, 0, none⟩ u) g v T :=
  ⟨h.1.setCell (p := ⟨k, 0, none⟩) hk _, by rw [Below.heap_setCell _ _ _ _ hn]; exact h.2⟩
set_option maxRecDepth 100000 in
set_option maxHeartbeats 2000000 in
theorem ktop_any (h : Sk w p l) :
    Calls Tryd.prog 13 #[.pointer (some ⟨p, 0, none⟩)] w fun e w' => e = .returned (.int .i64 (topZ l)) ∧ Below w.heap.size w w' := by
  refine (callsIn_wide (n := 6)).1 ?_
  have HS := hid h
  have hp := h.lt
  clear h
  refine callsIn_of_wp_marks Tryd.func13 rfl trivial ?_ rfl
  simp only [Tryd.ntmps13, List.size_toArray, List.length_cons, List.length_nil, Nat.reduceAdd, Nat.reduceSub, Array.replicate_succ, Array.replicate_zero, List.push_toArray, List.append_toArray, List.nil_append, List.cons_append]
  gi_wp2
  obtain ⟨W0, hW0⟩ : ∃ W0, W0 = w.alloc (.cells #[.int .i64 0] 3) := ⟨_, rfl⟩
  have hb0 : Below w.heap.size w W0 := by rw [hW0]; exact (Below.refl _ _).alloc (Nat.le_refl _) _
  have hs0 : W0.heap.size = w.heap.size + 1 := by rw [hW0]; simp
  have hc0 : W0.heap[w.heap.size]? = some (.cells #[.int .i64 0] 3 (0, 0)) := by rw [hW0]; exact heap_alloc_new w _
  rw [← hW0]
  have hB0 : Bx1 w W0 w.heap.size (.int .i64 0) 3 := ⟨hb0, hc0⟩
  clear hW0 hb0 hc0
  refine wp_range_bound (m := 4) (gf := 21) rfl (enters_of Tryd.func21 (by kernel_rfl) rfl) (down_hands p l 4) (fun _ => rfl)
    (fun k W => k = 0 ∧ Bx1 w W w.heap.size (.int .i64 0) 3)
    (fun c W => c = .ret ∧ ∃ x, l.reverse[0]? = some x ∧ Bx1 w W w.heap.size (.int .i64 x) 3)
    (fun k W W' h hb => ⟨h.1, h.2.on hb (by omega) (by omega)⟩)
    (fun c W W' ⟨h1, x, h2, h3⟩ hb => ⟨h1, x, h2, h3.on hb (by omega) (by omega)⟩)
    (fun k W h => HS.out.on h.2.1)
    ⟨rfl, hB0⟩
    (fun x => { tmps := #[.pointer (some ⟨p, 0, none⟩), undef, .pointer (some ⟨w.heap.size, 0, none⟩), .int .i64 x, .pointer (some ⟨p, 0, none⟩), .func (.func 21) #[.pointer (some ⟨p, 0, none⟩)] #[], .int .i64 x, undef], defers := [] }) ?assign ?body ?done ?stop
  case assign =>
    intro r x W K hK
    simp only [encI]
    gi_wp2
    exact hK
  case body =>
    rintro r k x W ⟨rfl, hB⟩ hx
    have hc := hB.cell
    have hf := hB.fz
    have hl := hB.lt
    gi_wp2
    exact ⟨(Abv.refl _ _).set _ (by show w.heap.size < _; omega) _, rfl, x, hx, hB.set (Nat.le_refl _) _⟩
  case done =>
    rintro D W hD ⟨h0, hB⟩ hK
    have hc := hB.cell
    have hf := hB.fz
    have hl := hB.lt
    have hl0 : l = [] := by
      rw [List.length_reverse] at h0
      exact List.eq_nil_of_length_eq_zero h0
    gi_wp2
    have hB' := hB.set (Nat.le_refl _) (.int .i64 0)
    have hK' : (W.setCell ⟨w.heap.size, 0, none⟩ (.int .i64 0)).heap[D]? = some (.deferred (some [])) := by rw [Below.heap_setCell _ _ _ _ (by show D ≠ w.heap.size; omega)]; exact hK
    refine ⟨by simp, .inl ⟨_, _, rfl, run_takeDeferred hK', ?_⟩⟩
    have hB2 := hB'.on (below_putObj (B := W0.heap.size) _ D (.deferred none) hD) (by omega) (by omega)
    have hc5 := hB2.cell
    refine ⟨.int .i64 0, ?_, by rw [hl0]; rfl, hB2.1⟩
    simp [results, Tryd.f13, go_sem, hc5]
  case stop =>
    rintro D c W hD ⟨rfl, x, hx, hB⟩ hK
    gi_wp2
    refine ⟨by simp, .inl ⟨_, _, rfl, run_takeDeferred hK, ?_⟩⟩
    have hB2 := hB.on (below_putObj (B := W0.heap.size) _ D (.deferred none) hD) (by omega) (by omega)
    have hc5 := hB2.cell
    refine ⟨.int .i64 x, ?_, by rw [topZ, hx]; rfl, hB2.1⟩
    simp [results, Tryd.f13, go_sem, hc5]

set_option maxRecDepth 100000 in
set_option maxHeartbeats 2000000 in
theorem knext_any (h : Sk w p l) (id : Int) :
    Calls Tryd.prog 14 #[.pointer (some ⟨p, 0, none⟩), .int .i64 id] w fun e w' => e = .returned (.int .i64 (nxt l id)) ∧ Below w.heap.size w w' := by
  refine (callsIn_wide (n := 6)).1 ?_
  have HS := hid h
  have hp := h.lt
  clear h
  refine callsIn_of_wp_marks Tryd.func14 rfl trivial ?_ rfl
  simp only [Tryd.ntmps14, List.size_toArray, List.length_cons, List.length_nil, Nat.reduceAdd, Nat.reduceSub, Array.replicate_succ, Array.replicate_zero, List.push_toArray, List.append_toArray, List.nil_append, List.cons_append]
  gi_wp2
  obtain ⟨W0, hW0⟩ : ∃ W0, W0 = ((w.alloc (.cells #[.int .i64 id] 3)).alloc (.cells #[.int .i64 0] 3)).alloc (.cells #[.bool false] 4) := ⟨_, rfl⟩
  have hb0 : Below w.heap.size w W0 := by rw [hW0]; exact (((Below.refl _ w).alloc (Nat.le_refl _) _).alloc (by simp) _).alloc (by simp; omega) _
  have hs0 : W0.heap.size = w.heap.size + 1 + 1 + 1 := by rw [hW0]; simp
  have hB1 : Bx1 w W0 w.heap.size (.int .i64 id) 3 := ⟨hb0, by
    rw [hW0]; exact ((Below.heap_alloc _ _ _ (by simp; omega)).trans (Below.heap_alloc _ _ _ (by simp))).trans (heap_alloc_new w _)⟩
  have hB2 : Bx1 w W0 (w.heap.size + 1) (.int .i64 0) 3 := ⟨hb0, by
    rw [hW0]
    refine (Below.heap_alloc _ _ _ (by simp)).trans ?_
    have := heap_alloc_new (w.alloc (.cells #[.int .i64 id] 3)) (.cells #[.int .i64 0] 3)
    rwa [World.size_alloc] at this⟩
  have hB3 : Bx1 w W0 (w.heap.size + 1 + 1) (.bool false) 4 := ⟨hb0, by
    rw [hW0]
    have := heap_alloc_new ((w.alloc (.cells #[.int .i64 id] 3)).alloc (.cells #[.int .i64 0] 3)) (.cells #[.bool false] 4)
    rwa [World.size_alloc, World.size_alloc] at this⟩
  rw [← hW0]
  clear hW0 hb0
  refine wp_range_bound (m := 4) (gf := 21) rfl (enters_of Tryd.func21 (by kernel_rfl) rfl) (down_hands p l 4) (fun _ => rfl)
    (fun k W => (∀ i y, i + 1 < k → l.reverse[i]? = some y → y ≠ id) ∧ Bx1 w W w.heap.size (.int .i64 id) 3 ∧ Bx1 w W (w.heap.size + 1) (.int .i64 0) 3 ∧ Bx1 w W (w.heap.size + 1 + 1) (.bool (mt l.reverse k id)) 4)
    (fun c W => c = .ret ∧ ∃ x, nx id l.reverse = some x ∧ Bx1 w W (w.heap.size + 1) (.int .i64 x) 3)
    (fun k W W' h hb => ⟨h.1, h.2.1.on hb (by omega) (by omega), h.2.2.1.on hb (by omega) (by omega), h.2.2.2.on hb (by omega) (by omega)⟩)
    (fun c W W' ⟨h1, x, h2, h3⟩ hb => ⟨h1, x, h2, h3.on hb (by omega) (by omega)⟩)
    (fun k W h => HS.out.on h.2.1.1)
    ⟨fun i y hi => absurd hi (by omega), hB1, hB2, by rw [mt_zero]; exact hB3⟩
    (fun x => { tmps := #[.pointer (some ⟨p, 0, none⟩), .int .i64 id, undef, .pointer (some ⟨w.heap.size, 0, none⟩), .pointer (some ⟨w.heap.size + 1, 0, none⟩), .pointer (some ⟨w.heap.size + 1 + 1, 0, none⟩), .int .i64 x, .pointer (some ⟨p, 0, none⟩), .func (.func 21) #[.pointer (some ⟨p, 0, none⟩)] #[], .int .i64 x, undef, undef, undef, undef, undef, undef, undef], defers := [] }) ?assign ?body ?done ?stop
  case assign =>
    intro r x W K hK
    simp only [encI]
    gi_wp2
    exact hK
  case body =>
    rintro r k x W ⟨hq, h1, h2, h3⟩ hx
    have c1 := h1.cell
    have c2 := h2.cell
    have f2 := h2.fz
    have l2 := h2.lt
    have c3 := h3.cell
    have f3 := h3.fz
    have l3 := h3.lt
    have HQ := hid hq
    have HX := hid hx
    have H1 := hid h1
    have H2 := hid h2
    have H3 := hid h3
    clear hq hx h1 h2 h3
    cases hm : mt l.reverse k id
    · rw [hm] at c3
      have HM := hid hm
      clear hm
      gi_wp2
      refine ⟨(Abv.refl _ _).set _ (by show w.heap.size + 1 + 1 < _; omega) _, mt_on HQ.out HM.out, H1.out.other (by omega) (by omega) _, H2.out.other (by omega) (by omega) _, ?_⟩
      rw [mt_succ HX.out]
      exact H3.out.set (by omega) _
    · rw [hm] at c3
      have HM := hid hm
      clear hm
      gi_wp2
      have hm := of_decide_eq_true HM.out
      exact ⟨(Abv.refl _ _).set _ (by show w.heap.size + 1 < _; omega) _, rfl, x, nx_hit HQ.out hm.1 hm.2 HX.out, H2.out.set (by omega) _⟩
  case done =>
    rintro D W hD ⟨hq, h1, h2, h3⟩ hK
    have HN := hid (nx_miss hq)
    have HD := hid hK
    have c2 := h2.cell
    have f2 := h2.fz
    have l2 := h2.lt
    have H2 := hid h2
    have HT := hid (ktop_any (HS.out.on h1.1))
    clear hq h1 h2 h3 hK
    gi_wp2_with (refine ⟨trivial, ?_⟩; gi_at_call 13; refine (callsIn_wide.2 HT.out).mono ?_; rintro e W1 ⟨rfl, hb⟩; clear HT; have c4 := (H2.out.on hb l2 H2.out.1.size).cell; have f4 := (H2.out.on hb l2 H2.out.1.size).fz; have l4 := (H2.out.on hb l2 H2.out.1.size).lt)
    have hB' := (H2.out.on hb l2 H2.out.1.size).set (by omega) (.int .i64 (topZ l))
    have hK' : (W1.setCell ⟨w.heap.size + 1, 0, none⟩ (.int .i64 (topZ l))).heap[D]? = some (.deferred (some [])) := by
      rw [Below.heap_setCell _ _ _ _ (by show D ≠ w.heap.size + 1; omega)]
      exact (hb.block D (Array.getElem?_eq_some_iff.1 HD.out).1).trans HD.out
    refine ⟨by simp, .inl ⟨_, _, rfl, run_takeDeferred hK', ?_⟩⟩
    have hB2 := hB'.on (below_putObj (B := W0.heap.size) _ D (.deferred none) hD) (by omega) (by omega)
    have hc5 := hB2.cell
    refine ⟨.int .i64 (topZ l), ?_, by rw [nxt, HN.out]; rfl, hB2.1⟩
    simp [results, Tryd.f14, go_sem, hc5]
  case stop =>
    rintro D c W hD ⟨rfl, x, hx, hB⟩ hK
    gi_wp2
    refine ⟨by simp, .inl ⟨_, _, rfl, run_takeDeferred hK, ?_⟩⟩
    have hB2 := hB.on (below_putObj (B := W0.heap.size) _ D (.deferred none) hD) (by omega) (by omega)
    have hc5 := hB2.cell
    refine ⟨.int .i64 x, ?_, by rw [nxt, hx]; rfl, hB2.1⟩
    simp [results, Tryd.f14, go_sem, hc5]
end Go.Proofs.YtfedcpnnmkkpaaaDoor
