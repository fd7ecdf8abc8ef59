/- A run of literals (structs and lists of constants) in one step: what the operations build and the blocks that they make, reckoned by a function over the frame and the number of the next block; that function is told once, by induction; and what a world holds behind such a run. No condition of its own. -/
import Derived.Test.YtadklnjkkmfhdaaDoorRows
import Derived.WalkKit
import Derived.Great.BuildSlice
import Derived.Great.Walk
import Derived.Deep.WholeRow
namespace Go.Proofs.YtadklnjkkmfhdaaDoor
open Go Go.RowKit

/-- The element type and the cells of a list literal. -/
def bslice (P : Program) (t : TypeId) (len : Nat) (parts : List (Nat × Value)) : Option (TypeId × Array Value) :=
  match P.underlying t with
  | some (.slice e) =>
    match P.info? e with
    | some ie =>
      match ie.zero with
      | some z => if len * ie.size > 2 ^ 24 then none else if len * ie.size = 0 then none else
          (Instr.fill (fun i => some (i * ie.size, ie.size)) ((Array.range (len * ie.size)).map (z.cells[· % z.cells.size]!)) parts).map fun c => (e, c)
      | none => none
    | none => none
  | _ => none

/-- What a run of literals leaves: the frame, the new blocks in order. -/
def runsB (P : Program) : List Oper → Act → Nat → Option (Act × List Obj)
  | [], a, _ => some (a, [])
  | o :: l, a, n =>
    match o.guard, o.op with
    | none, .build t parts =>
      match P.built t (parts.map fun (i, x) => (i, a.eval x)).toList with
      | some cells => runsB P l (a.put o.dst (.agg cells)) n
      | none => none
    | none, .buildSlice t len parts =>
      match bslice P t len (parts.map fun (i, x) => (i, a.eval x)).toList with
      | some (e, cells) =>
        match runsB P l (a.put o.dst (.slice (some ⟨n, 0, none⟩) len len)) (n + 1) with
        | some (a', os) => some (a', .cells cells e :: os)
        | none => none
      | none => none
    | _, _ => none

/-- The world behind new blocks. -/
def allocs : List Obj → World → World
  | [], w => w
  | b :: l, w => allocs l (w.alloc b)

theorem size_alloc (w : World) (b : Obj) : (w.alloc b).heap.size = w.heap.size + 1 := by
  show (w.heap.push b).size = _
  exact Array.size_push b

theorem wpList_runsB {P : Program} {ops : Array Oper} {rest : List Oper} {Q : Exit → Act → World → Prop} :
    ∀ (l : List Oper) (a : Act) (w : World) (n : Nat) (a' : Act) (os : List Obj), w.heap.size = n → runsB P l a n = some (a', os) →
      wpList P ops Q rest a' (allocs os w) → wpList P ops Q (l ++ rest) a w := by
  intro l
  induction l with
  | nil =>
    intro a w n a' os _ h hk
    simp only [runsB, Option.some.injEq, Prod.mk.injEq] at h
    obtain ⟨rfl, rfl⟩ := h
    exact hk
  | cons o l ih =>
    intro a w n a' os hn h hk
    rw [List.cons_append]
    unfold runsB at h
    split at h
    · rename_i t parts hg ho
      split at h
      · rename_i cells hb
        exact wpList_buildTo hg t parts ho _ rfl cells hb (ih _ w n a' os hn h hk)
      · cases h
    · rename_i t len parts hg ho
      split at h
      · rename_i e cells hb
        split at h
        · rename_i a2 os2 hr
          simp only [Option.some.injEq, Prod.mk.injEq] at h
          obtain ⟨rfl, rfl⟩ := h
          unfold bslice at hb
          split at hb
          · rename_i e2 hu
            split at hb
            · rename_i ie hie
              split at hb
              · rename_i z hz
                split at hb
                · cases hb
                · rename_i h1
                  split at hb
                  · cases hb
                  · rename_i h2
                    obtain ⟨c, hc, hcc⟩ := Option.map_eq_some_iff.1 hb
                    simp only [Prod.mk.injEq] at hcc
                    obtain ⟨rfl, rfl⟩ := hcc
                    refine wpList_buildSlice hg t e2 len parts ho c ie z hu hie hz h1 h2 hc ?_
                    rw [hn]
                    exact ih _ _ (n + 1) a2 os2 (by rw [size_alloc, hn]) hr hk
              · cases hb
            · cases hb
          · cases hb
        · cases h
      · cases h
    · cases h

theorem allocs_below : ∀ (l : List Obj) (w : World) (B : Nat), B ≤ w.heap.size → Below B w (allocs l w)
  | [], w, B, _ => Below.refl _ _
  | b :: l, w, B, h => ((Below.refl B w).alloc h b).trans ((allocs_below l (w.alloc b) B (by rw [size_alloc]; omega)))

theorem allocs_size : ∀ (l : List Obj) (w : World), (allocs l w).heap.size = w.heap.size + l.length
  | [], w => rfl
  | b :: l, w => by rw [allocs, allocs_size l, size_alloc, List.length_cons]; omega

theorem allocs_block : ∀ (l : List Obj) (w : World) (i : Nat) (b : Obj), l[i]? = some b → (allocs l w).heap[w.heap.size + i]? = some b
  | [], w, i, b, h => by simp at h
  | c :: l, w, 0, b, h => by
    simp only [List.getElem?_cons_zero, Option.some.injEq] at h
    subst h
    rw [allocs, Nat.add_zero, (allocs_below l (w.alloc c) _ (Nat.le_refl _)).block _ (by rw [size_alloc]; omega)]
    show (w.heap.push c)[w.heap.size]? = some c
    exact Array.getElem?_push_size
  | c :: l, w, i + 1, b, h => by
    have h2 := allocs_block l (w.alloc c) i b (by simpa using h)
    rw [size_alloc] at h2
    rw [allocs, show w.heap.size + (i + 1) = w.heap.size + 1 + i by omega]
    exact h2

/-- A literal laid into a new variable: build, alloc, store. -/
theorem wpList_litvar {P : Program} {ops : Array Oper} {rest : List Oper} {Q : Exit → Act → World → Prop} {a : Act} {w : World} {o1 o2 o3 : Oper} (t : TypeId) (parts : Array (Nat × Operand)) (d1 d2 : Tmp)
    (h1 : o1.guard = none ∧ o1.op = .build t parts ∧ o1.dst = some d1) (h2 : o2.guard = none ∧ o2.op = .alloc t ∧ o2.dst = some d2) (h3 : o3.guard = none ∧ o3.op = .store t (.tmp d2) (.tmp d1) ∧ o3.dst = none)
    (cells : Array Value) (hf : P.built t (parts.map fun (i, x) => (i, a.eval x)).toList = some cells) (z : Value) (n : Nat) (hz : (P.info? t).map (fun i => (i.zero, i.size)) = some (some z, n)) (hn : z.cells.size = n) (hc : cells.size = n) (hall : cells.all (·.oneCell') = true)
    (N : Nat) (hN : w.heap.size = N) (a' : Act) (ha : (a.put (some d1) (.agg cells)).put (some d2) (.pointer (some ⟨N, 0, none⟩)) = a') (hx : a'.eval (.tmp d2) = .pointer (some ⟨N, 0, none⟩)) (hy : a'.eval (.tmp d1) = .agg cells)
    (h : wpList P ops Q rest a' (w.alloc (.cells cells t))) : wpList P ops Q (o1 :: o2 :: o3 :: rest) a w := by
  obtain ⟨z1, z2⟩ := zero_of_info hz
  refine wpList_buildTo h1.1 t parts h1.2.1 _ h1.2.2 cells hf ?_
  refine wpList_plain h2.1 fun K hK => ?_
  unfold Oper.wp execOp
  simp only [h2.2.1, Instr.alloc, Sem.run_bind, z1, Result.andThen_ok, newVar, newRow, Sem.run_pure]
  have hr : Sem.run P (newObj (Obj.cells z.cells t)) w = .ok w.heap.size (w.alloc (Obj.cells z.cells t)) := by simp
  simp only [hr, Result.andThen_ok]
  show K ((a.put (some d1) (.agg cells)).put o2.dst (.pointer (some ⟨w.heap.size, 0, none⟩))) (w.alloc (.cells z.cells t))
  rw [h2.2.2]
  refine hK _ _ ?_
  subst hN
  rw [ha]
  refine wpList_store_rowTo h3.1 t _ _ h3.2.1 h3.2.2 w.heap.size cells hx hy t z.cells (heap_alloc_last w _) (by rw [z2, hc]) (by rw [hn, hc]) hall ?_
  rw [World.setRow_alloc_new]
  exact h
end Go.Proofs.YtadklnjkkmfhdaaDoor
