/- Small laws on worlds that only grow, but for some blocks; no program. -/
import Derived.WalkKit
import Derived.ProofKit
import Derived.Deep.AppendSrc
import Derived.Laws.BytesArg
import Derived.Lib.SlBytesRow
import Derived.Deep.RegionHeldLaw
import Derived.Maps.OwnSet
namespace Go.Proofs.YtmcbbpcbebbjdaaDoor
open Go Go.RowKit

theorem hid {p : Prop} (h : p) : Hid p := h

theorem Below.on {w w1 w2 : World} (h : Below w.heap.size w w1) (h2 : Below w1.heap.size w1 w2) : Below w.heap.size w w2 := h.trans (h2.mono h.size)

theorem wpAnyH_mono {P : Program} {md : Region.Mode} {ops : Array Oper} {Q : Exit → Act → World → Prop} {S S' : World → Prop} (h : ∀ x, S' x → S x) : ∀ {fuel : Nat} {listed : Array Bool} {a : Act} {w : World}, wpAnyH P md ops Q S' fuel listed a w → wpAnyH P md ops Q S fuel listed a w
  | 0, _, _, _, hh => hh
  | _ + 1, _, _, _, hh => ⟨hh.1, fun i hi => wpOp_mono (fun _ _ q => ⟨h _ q.1, wpAnyH_mono h q.2⟩) (hh.2 i hi)⟩

theorem ownsRow_low {w : World} {base base' e size n : Nat} {v : Value} {xs : List Value} (h : w.ownsRow base e size v n xs) (hb : base' ≤ base) : w.ownsRow base' e size v n xs := by
  refine ⟨h.1, ?_⟩
  rcases h.2 with q | ⟨g, cap, cur, e1, e2, e3⟩
  · exact .inl q
  · exact .inr ⟨g, cap, cur, e1, by omega, e3⟩

theorem ownsRow_below {w w' : World} {base e size n : Nat} {v : Value} {xs : List Value} (h : w.ownsRow base e size v n xs) (hb : Below w.heap.size w w') : w'.ownsRow base e size v n xs := by
  refine ⟨h.1, ?_⟩
  rcases h.2 with q | ⟨g, cap, cur, e1, e2, e3, e4⟩
  · exact .inl q
  · exact .inr ⟨g, cap, cur, e1, e2, by rw [hb.block _ (Array.getElem?_eq_some_iff.1 e3).1]; exact e3, e4⟩

theorem below_drewN {u v : World} {B : Nat} (h : Below B u v) (q : Nat) : Below B u (v.drewN q) := ⟨h.os, h.tape, h.output, h.size, h.block⟩

/-- Of the blocks that were there only those of X may have turned. -/
structure Kp (X : List Nat) (w w' : World) : Prop where
  os : w'.os = w.os
  tape : w'.tape = w.tape
  output : w'.output = w.output
  size : w.heap.size ≤ w'.heap.size
  block : ∀ k, k < w.heap.size → k ∉ X → w'.heap[k]? = w.heap[k]?

theorem Kp.below {X : List Nat} {w w' : World} {B : Nat} (h : Kp X w w') (hB : B ≤ w.heap.size) (hX : ∀ k ∈ X, B ≤ k) : Below B w w' :=
  ⟨h.os, h.tape, h.output, h.size, fun k hk => h.block k (by omega) (fun hm => by have := hX k hm; omega)⟩
theorem kp_of_below {w w' : World} (h : Below w.heap.size w w') (X : List Nat) : Kp X w w' := ⟨h.os, h.tape, h.output, h.size, fun k hk _ => h.block k hk⟩
theorem kp_of_grown {w w' : World} {row : Option Nat} (h : w.grownBy w' row) : Kp row.toList w w' :=
  ⟨h.os, h.tape, h.output, h.size, fun k hk hn => h.block k hk (fun e => hn (by rw [← e]; simp))⟩
theorem Kp.trans {X Y : List Nat} {w w1 w2 : World} (h : Kp X w w1) (h1 : Kp Y w1 w2) (hY : ∀ k ∈ Y, k < w.heap.size → k ∈ X) : Kp X w w2 :=
  ⟨h1.os.trans h.os, h1.tape.trans h.tape, h1.output.trans h.output, Nat.le_trans h.size h1.size, fun k hk hn => by
    rw [h1.block k (Nat.lt_of_lt_of_le hk h.size) (fun hm => hn (hY k hm hk))]
    exact h.block k hk hn⟩
theorem Kp.mono {X Y : List Nat} {w w1 : World} (h : Kp X w w1) (hY : ∀ k ∈ X, k < w.heap.size → k ∈ Y) : Kp Y w w1 :=
  ⟨h.os, h.tape, h.output, h.size, fun k hk hn => h.block k hk (fun hm => hn (hY k hm hk))⟩
theorem Kp.set {X : List Nat} {w w1 : World} (h : Kp X w w1) (p : Addr) (hp : p.block ∈ X) (u : Value) : Kp X w (w1.setCell p u) :=
  h.trans (Y := [p.block]) ⟨rfl, rfl, rfl, by simp [World.setCell], fun k _ hn => Below.heap_setCell _ _ _ _ (fun e => hn (by simp [e]))⟩ (fun k hk _ => by
    simp only [List.mem_cons, List.not_mem_nil, or_false] at hk
    rw [hk]
    exact hp)
theorem Kp.var {X : List Nat} {w w' : World} (h : Kp X w w') {k : Nat} {o : Obj} (ho : w.heap[k]? = some o) (hn : k ∉ X) : w'.heap[k]? = some o := by
  rw [h.block k (Array.getElem?_eq_some_iff.1 ho).1 hn]
  exact ho
theorem Kp.row {X : List Nat} {w w' : World} (h : Kp X w w') {base e size n : Nat} {v : Value} {xs : List Value} (ho : w.ownsRow base e size v n xs) (hn : ∀ k, v.ownBlock = some k → k ∉ X) : w'.ownsRow base e size v n xs := by
  refine ⟨ho.1, ?_⟩
  rcases ho.2 with q | ⟨g, cap, cur, rfl, e2, e3, e4⟩
  · exact .inl q
  · exact .inr ⟨g, cap, cur, rfl, e2, h.var e3 (hn g rfl), e4⟩
/-- A write into a block where the row does not lie. -/
theorem ownsRow_set {w : World} {base e size n : Nat} {v : Value} {xs : List Value} (h : w.ownsRow base e size v n xs) (p : Addr) (hp : v.ownBlock ≠ some p.block) (u : Value) : (w.setCell p u).ownsRow base e size v n xs :=
  ((kp_of_below (Below.refl _ _) [p.block]).set p (by simp) u).row h (fun k hk hm => by
    simp only [List.mem_cons, List.not_mem_nil, or_false] at hm
    exact hp (by rw [hk, hm]))

theorem kp_turned {w w' : World} {b : Nat} (h : w.mapTurned w' b) : Kp [b] w w' := kp_of_grown h.grown
theorem Kp.refl (X : List Nat) (w : World) : Kp X w w := kp_of_below (Below.refl _ _) X
theorem Kp.cell {X : List Nat} {w w' : World} (h : Kp X w w') {a : Addr} {v : Value} (hc : w.cell? a = some v) (hn : a.block ∉ X) : w'.cell? a = some v := by
  rw [← hc]
  simp only [World.cell?, h.block a.block (World.block_lt_of_cell? w _ hc) hn]
end Go.Proofs.YtmcbbpcbebbjdaaDoor
