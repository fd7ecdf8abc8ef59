/- The document's own Request, Event, Name, Face (tableauref03). -/
import Derived.Test.YtadklnjkkmfhdaaDoorRefS
namespace Go.Proofs.YtadklnjkkmfhdaaDoor
open Go Go.RowKit

theorem rqAt_row (f o : Int) : rqAt f o = if 0 ≤ o then (rqRow f)[o.toNat]? else none := by
  rw [rqAt, rqRow]
  by_cases h1 : 0 ≤ f <;> by_cases h2 : 0 ≤ o <;> simp [h1, h2]
theorem evAt_row (f o : Int) : evAt f o = if 0 ≤ o then (evRow f)[o.toNat]? else none := by
  rw [evAt, evRow]
  by_cases h1 : 0 ≤ f <;> by_cases h2 : 0 ≤ o <;> simp [h1, h2]

set_option maxRecDepth 100000 in
theorem RefRequest_none (f o : Int) (w : World) (h : rqAt f o = none) :
    Calls Tryd.prog 9 #[.int .i64 f, .int .i64 o] w fun e w' => e = .returned (.tuple #[.agg #[.string ⟨#[]⟩, .int .i64 0, .bool false], .bool false]) ∧ Below w.heap.size w w' := by
  rw [rqAt_row] at h
  have HC : Hid (∀ u, Calls Tryd.prog 21 #[.int .i64 f] u (RqAns (rqRow f) u)) := fun u => requests_any f u
  have HZ : Hid (∀ w', Below (w.alloc (.cells #[.string ⟨#[]⟩, .int .i64 0, .bool false] 28)).heap.size (w.alloc (.cells #[.string ⟨#[]⟩, .int .i64 0, .bool false] 28)) w' → w'.heap[w.heap.size]? = some (.cells #[.string ⟨#[]⟩, .int .i64 0, .bool false] 28)) := fun w' hb => by
    rw [hb.block _ (by rw [size_alloc]; omega)]
    exact heap_alloc_last w _
  go_enter Tryd.func9, Tryd.ntmps9
  go_wp2_with fail
  refine (HC.out _).mono ?_
  rintro e w1 ⟨p, n, rfl, hn, _, hb⟩
  have hz := HZ.out w1 hb
  have z0 : w1.cell? ⟨w.heap.size, 0, none⟩ = some (.string ⟨#[]⟩) := by rw [World.cell?, hz]; rfl
  have z1 : w1.cell? ⟨w.heap.size, 1, none⟩ = some (.int .i64 0) := by rw [World.cell?, hz]; rfl
  have z2 : w1.cell? ⟨w.heap.size, 2, none⟩ = some (.bool false) := by rw [World.cell?, hz]; rfl
  have zf : ∀ k, w1.frozen? ⟨w.heap.size, k, none⟩ = false := Lib.frozen_of_heap hz
  have HB : Hid (Below w.heap.size w w1) := (below1 w _).trans (hb.mono (below1 w _).size)
  have hon : o < 0 ∨ (n : Int) ≤ o := by
    split at h
    · have := List.getElem?_eq_none_iff.1 h
      omega
    · omega
  clear h hb hz HZ HC hn
  by_cases h1 : o < 0
  · have h1' : decide (o < 0) = true := decide_eq_true h1
    go_wp2
    refine bodyPost_ret (v := .tuple #[.agg #[.string ⟨#[]⟩, .int .i64 0, .bool false], .bool false]) ?_ rfl ⟨rfl, ?_⟩
    · simp [results, Tryd.results9, go_sem, z0, z1, z2]
    · exact ((HB.out.setCell (p := ⟨w.heap.size, 0, none⟩) (Nat.le_refl _) _).setCell (p := ⟨w.heap.size, 1, none⟩) (Nat.le_refl _) _).setCell (p := ⟨w.heap.size, 2, none⟩) (Nat.le_refl _) _
  · have h1' : decide (o < 0) = false := decide_eq_false h1
    have h2 : (n : Int) ≤ o := by omega
    have h2' : decide ((n : Int) ≤ o) = true := decide_eq_true h2
    go_wp2
    refine bodyPost_ret (v := .tuple #[.agg #[.string ⟨#[]⟩, .int .i64 0, .bool false], .bool false]) ?_ rfl ⟨rfl, ?_⟩
    · simp [results, Tryd.results9, go_sem, z0, z1, z2]
    · exact ((HB.out.setCell (p := ⟨w.heap.size, 0, none⟩) (Nat.le_refl _) _).setCell (p := ⟨w.heap.size, 1, none⟩) (Nat.le_refl _) _).setCell (p := ⟨w.heap.size, 2, none⟩) (Nat.le_refl _) _

set_option maxRecDepth 100000 in
theorem RefRequest_some (f : Int) (j : Nat) (w : World) (s : List UInt8) (m : Int) (b : Bool) (h : (rqRow f)[j]? = some (s, m, b)) :
    Calls Tryd.prog 9 #[.int .i64 f, .int .i64 j] w fun e w' => e = .returned (.tuple #[.agg #[.string ⟨s.toArray⟩, .int .i64 m, .bool b], .bool true]) ∧ Below w.heap.size w w' := by
  have HC : Hid (∀ u, Calls Tryd.prog 21 #[.int .i64 f] u (RqAns (rqRow f) u)) := fun u => requests_any f u
  have HZ : Hid (∀ w', Below (w.alloc (.cells #[.string ⟨#[]⟩, .int .i64 0, .bool false] 28)).heap.size (w.alloc (.cells #[.string ⟨#[]⟩, .int .i64 0, .bool false] 28)) w' → w'.heap[w.heap.size]? = some (.cells #[.string ⟨#[]⟩, .int .i64 0, .bool false] 28)) := fun w' hb => by
    rw [hb.block _ (by rw [size_alloc]; omega)]
    exact heap_alloc_last w _
  go_enter Tryd.func9, Tryd.ntmps9
  go_wp2_with fail
  refine (HC.out _).mono ?_
  rintro e w1 ⟨p, n, rfl, hn, hp, hb⟩
  have hz := HZ.out w1 hb
  have z0 : w1.cell? ⟨w.heap.size, 0, none⟩ = some (.string ⟨#[]⟩) := by rw [World.cell?, hz]; rfl
  have z1 : w1.cell? ⟨w.heap.size, 1, none⟩ = some (.int .i64 0) := by rw [World.cell?, hz]; rfl
  have z2 : w1.cell? ⟨w.heap.size, 2, none⟩ = some (.bool false) := by rw [World.cell?, hz]; rfl
  have zf : ∀ k, w1.frozen? ⟨w.heap.size, k, none⟩ = false := Lib.frozen_of_heap hz
  have HB : Hid (Below w.heap.size w w1) := (below1 w _).trans (hb.mono (below1 w _).size)
  have hjn : j < n := by rw [hn]; exact (List.getElem?_eq_some_iff.1 h).1
  obtain ⟨B, rfl, hB⟩ := hp (by omega)
  obtain ⟨g0, g1, g2⟩ := flat_get _ _ _ _ _ h
  have c0 := cell_of hB g0
  have c1 := cell_of hB g1
  have c2 := cell_of hB g2
  clear h hb hz HZ HC hn hp hB g0 g1 g2
  have h1' : decide ((j : Int) < 0) = false := decide_eq_false (by omega)
  have h2' : decide (n ≤ j) = false := decide_eq_false (by omega)
  have h2 : (j : Int) < (n : Int) := by omega
  go_wp2
  refine bodyPost_ret (v := .tuple #[.agg #[.string ⟨s.toArray⟩, .int .i64 m, .bool b], .bool true]) ?_ rfl ⟨rfl, ?_⟩
  · simp [results, Tryd.results9, go_sem, z0, z1, z2]
  · exact ((HB.out.setCell (p := ⟨w.heap.size, 0, none⟩) (Nat.le_refl _) _).setCell (p := ⟨w.heap.size, 1, none⟩) (Nat.le_refl _) _).setCell (p := ⟨w.heap.size, 2, none⟩) (Nat.le_refl _) _

theorem RefRequest_any (f o : Int) (w : World) :
    Calls Tryd.prog 9 #[.int .i64 f, .int .i64 o] w fun e w' => e = .returned (.tuple #[.agg #[.string ⟨(rqS f o).toArray⟩, .int .i64 (rqM f o), .bool (rqB f o)], .bool (rqAt f o).isSome]) ∧ Below w.heap.size w w' := by
  rw [rqS, rqM, rqB]
  cases h : rqAt f o with
  | none => exact RefRequest_none f o w h
  | some x =>
    obtain ⟨s, m, b⟩ := x
    rw [rqAt_row] at h
    split at h
    · rename_i ho
      obtain ⟨j, rfl⟩ : ∃ j : Nat, o = j := ⟨o.toNat, by omega⟩
      exact RefRequest_some f j w s m b h
    · cases h

set_option maxRecDepth 100000 in
theorem RefEvent_none (f o : Int) (w : World) (h : evAt f o = none) :
    Calls Tryd.prog 11 #[.int .i64 f, .int .i64 o] w fun e w' => e = .returned (.tuple #[.string ⟨#[]⟩, .bool false]) ∧ Below w.heap.size w w' := by
  rw [evAt_row] at h
  have HC : Hid (∀ u, Calls Tryd.prog 23 #[.int .i64 f] u (EvAns (evRow f) u)) := fun u => events_any f u
  go_enter Tryd.func11, Tryd.ntmps11
  go_wp2_with fail
  refine (HC.out _).mono ?_
  rintro e w1 ⟨p, n, rfl, hn, _, hb⟩
  have HB : Hid (Below w.heap.size w w1) := hb
  have hon : o < 0 ∨ (n : Int) ≤ o := by
    split at h
    · have := List.getElem?_eq_none_iff.1 h
      omega
    · omega
  clear h hb HC hn
  by_cases h1 : o < 0
  · have h1' : decide (o < 0) = true := decide_eq_true h1
    go_wp2
    go_ret2
    exact ⟨rfl, HB.out⟩
  · have h1' : decide (o < 0) = false := decide_eq_false h1
    have h2 : (n : Int) ≤ o := by omega
    have h2' : decide ((n : Int) ≤ o) = true := decide_eq_true h2
    go_wp2
    go_ret2
    exact ⟨rfl, HB.out⟩

set_option maxRecDepth 100000 in
theorem RefEvent_some (f : Int) (j : Nat) (w : World) (s : List UInt8) (h : (evRow f)[j]? = some s) :
    Calls Tryd.prog 11 #[.int .i64 f, .int .i64 j] w fun e w' => e = .returned (.tuple #[.string ⟨s.toArray⟩, .bool true]) ∧ Below w.heap.size w w' := by
  have HC : Hid (∀ u, Calls Tryd.prog 23 #[.int .i64 f] u (EvAns (evRow f) u)) := fun u => events_any f u
  go_enter Tryd.func11, Tryd.ntmps11
  go_wp2_with fail
  refine (HC.out _).mono ?_
  rintro e w1 ⟨p, n, rfl, hn, hp, hb⟩
  have HB : Hid (Below w.heap.size w w1) := hb
  have hjn : j < n := by rw [hn]; exact (List.getElem?_eq_some_iff.1 h).1
  obtain ⟨B, rfl, hB⟩ := hp (by omega)
  have g0 : (strs (evRow f))[j]? = some (.string ⟨s.toArray⟩) := by rw [strs, List.getElem?_map, h]; rfl
  have c0 := cell_of hB g0
  clear h hb HC hn hp hB g0
  have h1' : decide ((j : Int) < 0) = false := decide_eq_false (by omega)
  have h2' : decide (n ≤ j) = false := decide_eq_false (by omega)
  have h2 : (j : Int) < (n : Int) := by omega
  go_wp2
  go_ret2
  exact ⟨rfl, HB.out⟩

theorem RefEvent_any (f o : Int) (w : World) :
    Calls Tryd.prog 11 #[.int .i64 f, .int .i64 o] w fun e w' => e = .returned (.tuple #[.string ⟨(evS f o).toArray⟩, .bool (evAt f o).isSome]) ∧ Below w.heap.size w w' := by
  rw [evS]
  cases h : evAt f o with
  | none => exact RefEvent_none f o w h
  | some s =>
    rw [evAt_row] at h
    split at h
    · rename_i ho
      obtain ⟨j, rfl⟩ : ∃ j : Nat, o = j := ⟨o.toNat, by omega⟩
      exact RefEvent_some f j w s h
    · cases h
end Go.Proofs.YtadklnjkkmfhdaaDoor
