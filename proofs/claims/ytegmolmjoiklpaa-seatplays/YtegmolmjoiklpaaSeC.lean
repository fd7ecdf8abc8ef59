/- The program's surfaces, from the uppermost one on: slices.Backward; At. -/
import Derived.Test.YtegmolmjoiklpaaSeB
import Derived.RangeFuncFrom
import Derived.RangeFuncCalls
import Derived.RangeFuncLeaves
import Derived.Shelf.Abstract
import Derived.Shelf.RegionOpen
import Derived.WalkKit
import Derived.OwnWalkIn
import Derived.TacticsInMore
import Derived.LoopNIn
import Derived.LoopIn
namespace Go.Proofs.Ytegmolmjoiklpaa
open Go Go.RowKit Go.Shelf
attribute [local go_sem] Oper.semAt_some

/-- With their numbers in the slice, of a list from the uppermost one on. -/
def bwR : List Ht → List (Int × Ht)
  | [] => []
  | h :: l => ((l.length : Int), h) :: bwR l
theorem bwR_length (l : List Ht) : (bwR l).length = l.length := by
  induction l with
  | nil => rfl
  | cons h l ih => rw [bwR, List.length_cons, List.length_cons, ih]
theorem bwR_at {l : List Ht} {k : Nat} {h : Ht} (hk : l[k]? = some h) : (bwR l)[k]? = some (((l.length - 1 - k : Nat) : Int), h) := by
  induction l generalizing k with
  | nil => simp at hk
  | cons u l ih =>
    rw [bwR]
    cases k with
    | zero =>
      simp only [List.getElem?_cons_zero, Option.some.injEq] at hk
      subst hk
      simp
    | succ k =>
      rw [List.getElem?_cons_succ, ih (by simpa using hk)]
      congr 3
      rw [List.length_cons]
      omega
theorem bwR_hit {l : List Ht} {k : Nat} {x : Int × Ht} (hk : (bwR l)[k]? = some x) : l[k]? = some x.2 := by
  have hl : k < l.length := by
    rw [← bwR_length]
    exact (List.getElem?_eq_some_iff.1 hk).1
  have h1 : l[k]? = some l[k] := List.getElem?_eq_getElem hl
  rw [bwR_at h1] at hk
  cases hk
  exact h1
def encB (x : Int × Ht) : Array Value := #[.int .i64 x.1, .agg (htv x.2)]
/-- What Backward's iterator reads. -/
def KB (g : Nat) (a : Option Addr) (n c : Nat) (hs : List Ht) (W : World) : Prop := W.cell? ⟨g, 0, none⟩ = some (.slice a n c) ∧ RdH W a n c hs

set_option maxRecDepth 100000 in
set_option maxHeartbeats 2000000 in
theorem back_hands (g : Nat) (a : Option Addr) (n c : Nat) (hs : List Ht) : HandsC Try.prog 37 #[] #[.pointer (some ⟨g, 0, none⟩)] encB (bwR hs.reverse) (KB g a n c hs) := fun mm r J Jx W hK _ _ hY h0 => by
  obtain ⟨c0, r0⟩ := hK 0 [] W h0
  have hn := r0.small
  have HL : Hid ((bwR hs.reverse).length = n) := by rw [Hid, bwR_length, List.length_reverse, r0.len]
  have HY := hid hY
  have HC : Hid (∀ k X W1, J k X W1 → k < n → ∃ h b off, (bwR hs.reverse)[k]? = some (((n - 1 - k : Nat) : Int), h) ∧ a = some ⟨b, off, none⟩ ∧ W1.cell? ⟨g, 0, none⟩ = some (.slice a n c) ∧ b < W1.heap.size ∧ Hc W1 b (off + (n - 1 - k) * 7) h) := fun k X W1 hJ hk => by
    obtain ⟨q1, q2⟩ := hK k X W1 hJ
    obtain ⟨b, off, h, e, hb, hh, _, _, hc⟩ := q2.at_ (j := n - 1 - k) (by omega)
    have hrl := q2.len
    have hr : hs.reverse[k]? = some h := by rw [List.getElem?_reverse (by omega), hrl]; exact hh
    have := bwR_at hr
    rw [List.length_reverse, hrl] at this
    exact ⟨h, b, off, this, e, q1, hb, hc⟩
  clear hK hY r0
  refine callsIn_of_wp Try.func37 rfl trivial ?_ rfl
  simp only [Try.ntmps37, List.size_toArray, List.length_cons, List.length_nil, Nat.reduceAdd, Nat.reduceSub, Array.replicate_succ, Array.replicate_zero, List.push_toArray, List.append_toArray, List.nil_append, List.cons_append]
  gi_wp2
  gi_loopw [3] (fun i wr => ∃ k : Nat, i = .int .i64 ((n : Int) - 1 - k) ∧ k ≤ n ∧ ∃ X, J k X wr) (fun i _ => (numOf i + 1).toNat)
  case atStart => exact ⟨0, by simp, by omega, [], h0⟩
  case round =>
    obtain ⟨k, rfl, hk, X, hj⟩ := hrel
    by_cases hgo : k < n
    · obtain ⟨h, b, off, hx, rfl, c1, l2, ⟨d0, d1, d2, d3, d4, d5, d6⟩⟩ := HC.out k X wr hj hgo
      obtain ⟨j, hj'⟩ : ∃ j : Nat, j = n - 1 - k := ⟨_, rfl⟩
      have ej : (n : Int) - 1 - k = j := by omega
      rw [← hj'] at d0 d1 d2 d3 d4 d5 d6 hx
      obtain ⟨fn, tmps, assign, body, hy, hR⟩ := HY.out (mm - 1) k X _ wr hj hx
      dsimp only [encB, htv] at hy
      have HR := hid hR
      have ej2 : (j : Int) - 1 = (n : Int) - 1 - ((k + 1 : Nat) : Int) := by omega
      have hjN : j < n := by omega
      have e1 : decide ((0 : Int) ≤ j) = true := decide_eq_true (by omega)
      rw [ej]
      have HE := hid ej
      have HE2 := hid ej2
      clear hR hx hj' ej ej2
      gi_wp2
      refine ⟨(fun q => nomatch q), HR.out.mono ?_⟩
      rintro e W3 ⟨_, (⟨rfl, X', _, hJ3⟩ | ⟨rfl, hJx3⟩)⟩
      · gi_wp2
        go_roundw
        case rel => exact ⟨k + 1, by rw [← HE2.out], by omega, X', hJ3⟩
        case measure => simp [numOf]
      · gi_wp2
        refine bodyPost_ret (results_none rfl _ _ _) rfl ?_
        exact ⟨⟨_, rfl⟩, .inr hJx3⟩
    · obtain rfl : k = n := by omega
      have e1 : decide ((0 : Int) ≤ (k : Int) - 1 - k) = false := decide_eq_false (by omega)
      gi_wp2
      go_end0
      exact ⟨⟨_, rfl⟩, .inl ⟨X, by rw [HL.out]; exact hj⟩⟩

theorem back_any (a : Option Addr) (n c : Nat) (w : World) :
    Calls Try.prog 26 #[.slice a n c] w fun e w' => e = .returned (.func (.func 37) #[] #[.pointer (some ⟨w.heap.size, 0, none⟩)]) ∧ w' = w.alloc (.cells #[.slice a n c] 39) := by
  go_enter Try.func26, Try.ntmps26
  go_wp2
  go_ret
  exact ⟨rfl, rfl⟩

theorem hp_ol {w : World} {k : Nat} {o : Obj} (h : w.heap[k]? = some o) (o' : Obj) : (w.alloc o').heap[k]? = some o := (Below.heap_alloc _ _ _ (Array.getElem?_eq_some_iff.1 h).1).trans h
theorem hp_nw (w : World) (o : Obj) {k : Nat} (hk : k = w.heap.size) : (w.alloc o).heap[k]? = some o := by rw [hk]; exact heap_alloc_new w _
/-- At's own blocks. -/
structure AtI (w W : World) (x y r0 r1 r2 : Int) (v : Value) : Prop where
  bel : Below w.heap.size w W
  b0 : W.heap[w.heap.size]? = some (.cells #[.int .i64 x] 3 (0, 0))
  b1 : W.heap[w.heap.size + 1]? = some (.cells #[.int .i64 y] 3 (0, 0))
  b2 : W.heap[w.heap.size + 1 + 1]? = some (.cells #[.int .i64 r0] 3 (0, 0))
  b3 : W.heap[w.heap.size + 1 + 1 + 1]? = some (.cells #[.int .i64 r1] 3 (0, 0))
  b4 : W.heap[w.heap.size + 1 + 1 + 1 + 1]? = some (.cells #[.int .i64 r2] 3 (0, 0))
  b5 : W.heap[w.heap.size + 1 + 1 + 1 + 1 + 1]? = some (.cells #[v] 39 (0, 0))
theorem AtI.lt {w W : World} {x y r0 r1 r2 : Int} {v : Value} (h : AtI w W x y r0 r1 r2 v) : w.heap.size + 1 + 1 + 1 + 1 + 1 < W.heap.size := (Array.getElem?_eq_some_iff.1 h.b5).1
theorem AtI.on {w W U : World} {x y r0 r1 r2 : Int} {v : Value} (h : AtI w W x y r0 r1 r2 v) {D : Nat} (hb : Below D W U) (hD : w.heap.size + 1 + 1 + 1 + 1 + 1 < D) : AtI w U x y r0 r1 r2 v :=
  ⟨h.bel.trans (hb.mono (by omega)), (hb.block _ (by omega)).trans h.b0, (hb.block _ (by omega)).trans h.b1, (hb.block _ (by omega)).trans h.b2, (hb.block _ (by omega)).trans h.b3, (hb.block _ (by omega)).trans h.b4, (hb.block _ (by omega)).trans h.b5⟩
theorem AtI.set {w W : World} {x y r0 r1 r2 : Int} {v : Value} (h : AtI w W x y r0 r1 r2 v) (z0 z1 z2 : Int) : AtI w (((W.setCell ⟨w.heap.size + 1 + 1, 0, none⟩ (.int .i64 z0)).setCell ⟨w.heap.size + 1 + 1 + 1, 0, none⟩ (.int .i64 z1)).setCell ⟨w.heap.size + 1 + 1 + 1 + 1, 0, none⟩ (.int .i64 z2)) x y z0 z1 z2 v := by
  have q : ∀ {U : World} {k j : Nat} {o : Obj} {u : Value}, U.heap[k]? = some o → k ≠ j → (U.setCell ⟨j, 0, none⟩ u).heap[k]? = some o := fun h1 h2 => (heap_setCell_other _ _ _ _ h2).trans h1
  refine ⟨((h.bel.setCell (p := ⟨w.heap.size + 1 + 1, 0, none⟩) (by simp only; omega) _).setCell (p := ⟨w.heap.size + 1 + 1 + 1, 0, none⟩) (by simp only; omega) _).setCell (p := ⟨w.heap.size + 1 + 1 + 1 + 1, 0, none⟩) (by simp only; omega) _,
    q (q (q h.b0 (by omega)) (by omega)) (by omega), q (q (q h.b1 (by omega)) (by omega)) (by omega), q (q (heap_setCell_same _ _ 0 _ _ _ h.b2) (by omega)) (by omega), q (heap_setCell_same _ _ 0 _ _ _ (q h.b3 (by omega))) (by omega), heap_setCell_same _ _ 0 _ _ _ (q (q h.b4 (by omega)) (by omega)), q (q (q h.b5 (by omega)) (by omega)) (by omega)⟩

theorem hcells {u : World} {p T : Nat} {t : Ht} (h : u.heap[p]? = some (.cells (htv t) T (0, 0))) : u.cell? ⟨p, 0, none⟩ = some (.int .i64 t.s) ∧ u.cell? ⟨p, 1, none⟩ = some (.int .i64 t.x) ∧ u.cell? ⟨p, 2, none⟩ = some (.int .i64 t.y) ∧ u.cell? ⟨p, 3, none⟩ = some (.int .i64 t.w) ∧ u.cell? ⟨p, 4, none⟩ = some (.int .i64 t.h) ∧ u.cell? ⟨p, 5, none⟩ = some (.bool t.t) ∧ u.cell? ⟨p, 6, none⟩ = some (.slice t.a t.n t.c) :=
  ⟨(Lib.cell_of_heap h 0).trans rfl, (Lib.cell_of_heap h 1).trans rfl, (Lib.cell_of_heap h 2).trans rfl, (Lib.cell_of_heap h 3).trans rfl, (Lib.cell_of_heap h 4).trans rfl, (Lib.cell_of_heap h 5).trans rfl, (Lib.cell_of_heap h 6).trans rfl⟩
theorem hcell1 {u : World} {p T : Nat} {v : Value} (h : u.heap[p]? = some (.cells #[v] T (0, 0))) : u.cell? ⟨p, 0, none⟩ = some v := (Lib.cell_of_heap h 0).trans rfl
end Go.Proofs.Ytegmolmjoiklpaa
