/- The document's own tables (tableauref03): Requests, Events, for any interface. -/
import Derived.Test.YtadklnjkkmfhdaaDoorSigF
namespace Go.Proofs.YtadklnjkkmfhdaaDoor
open Go Go.RowKit

theorem last2 (w : World) (b c : Obj) : ((w.alloc b).alloc c).heap[w.heap.size + 1]? = some c := by
  have h := heap_alloc_last (w.alloc b) c
  rw [size_alloc] at h
  exact h

/-- The rows of an interface. -/
def rqRow (f : Int) : List (List UInt8 × Int × Bool) := if 0 ≤ f then rqT.getD f.toNat [] else []
def evRow (f : Int) : List (List UInt8) := if 0 ≤ f then evT.getD f.toNat [] else []

/-- What is handed back holds these rows. -/
def RqAns (l : List (List UInt8 × Int × Bool)) (w : World) (e : Ending) (w' : World) : Prop :=
  ∃ p n, e = .returned (.slice p n n) ∧ n = l.length ∧ (0 < n → ∃ B, p = some ⟨B, 0, none⟩ ∧ w'.heap[B]? = some (.cells (flat l).toArray 28)) ∧ Below w.heap.size w w'
def EvAns (l : List (List UInt8)) (w : World) (e : Ending) (w' : World) : Prop :=
  ∃ p n, e = .returned (.slice p n n) ∧ n = l.length ∧ (0 < n → ∃ B, p = some ⟨B, 0, none⟩ ∧ w'.heap[B]? = some (.cells (strs l).toArray 9)) ∧ Below w.heap.size w w'

set_option maxRecDepth 100000 in
theorem requests_1 (w : World) : Calls Tryd.prog 21 #[.int .i64 1] w (RqAns (rqRow 1) w) := by
  go_enter Tryd.func21, Tryd.ntmps21
  go_wp2
  go_ret
  exact ⟨_, _, rfl, rfl, fun _ => ⟨_, rfl, last2 _ _ _⟩, below2 _ _ _⟩
set_option maxRecDepth 100000 in
theorem requests_2 (w : World) : Calls Tryd.prog 21 #[.int .i64 2] w (RqAns (rqRow 2) w) := by
  go_enter Tryd.func21, Tryd.ntmps21
  go_wp2
  go_ret
  exact ⟨_, _, rfl, rfl, fun _ => ⟨_, rfl, last2 _ _ _⟩, below2 _ _ _⟩
set_option maxRecDepth 100000 in
theorem requests_4 (w : World) : Calls Tryd.prog 21 #[.int .i64 4] w (RqAns (rqRow 4) w) := by
  go_enter Tryd.func21, Tryd.ntmps21
  go_wp2
  go_ret
  exact ⟨_, _, rfl, rfl, fun _ => ⟨_, rfl, last2 _ _ _⟩, below2 _ _ _⟩
set_option maxRecDepth 100000 in
theorem requests_5 (w : World) : Calls Tryd.prog 21 #[.int .i64 5] w (RqAns (rqRow 5) w) := by
  go_enter Tryd.func21, Tryd.ntmps21
  go_wp2
  go_ret
  exact ⟨_, _, rfl, rfl, fun _ => ⟨_, rfl, last2 _ _ _⟩, below2 _ _ _⟩
set_option maxRecDepth 100000 in
theorem requests_6 (w : World) : Calls Tryd.prog 21 #[.int .i64 6] w (RqAns (rqRow 6) w) := by
  go_enter Tryd.func21, Tryd.ntmps21
  go_wp2
  go_ret
  exact ⟨_, _, rfl, rfl, fun _ => ⟨_, rfl, last2 _ _ _⟩, below2 _ _ _⟩
set_option maxRecDepth 100000 in
theorem requests_7 (w : World) : Calls Tryd.prog 21 #[.int .i64 7] w (RqAns (rqRow 7) w) := by
  go_enter Tryd.func21, Tryd.ntmps21
  go_wp2
  go_ret
  exact ⟨_, _, rfl, rfl, fun _ => ⟨_, rfl, last2 _ _ _⟩, below2 _ _ _⟩
set_option maxRecDepth 100000 in
theorem requests_8 (w : World) : Calls Tryd.prog 21 #[.int .i64 8] w (RqAns (rqRow 8) w) := by
  go_enter Tryd.func21, Tryd.ntmps21
  go_wp2
  go_ret
  exact ⟨_, _, rfl, rfl, fun _ => ⟨_, rfl, last2 _ _ _⟩, below2 _ _ _⟩
set_option maxRecDepth 100000 in
theorem requests_9 (w : World) : Calls Tryd.prog 21 #[.int .i64 9] w (RqAns (rqRow 9) w) := by
  go_enter Tryd.func21, Tryd.ntmps21
  go_wp2
  go_ret
  exact ⟨_, _, rfl, rfl, fun _ => ⟨_, rfl, last2 _ _ _⟩, below2 _ _ _⟩
set_option maxRecDepth 100000 in
theorem requests_10 (w : World) : Calls Tryd.prog 21 #[.int .i64 10] w (RqAns (rqRow 10) w) := by
  go_enter Tryd.func21, Tryd.ntmps21
  go_wp2
  go_ret
  exact ⟨_, _, rfl, rfl, fun _ => ⟨_, rfl, last2 _ _ _⟩, below2 _ _ _⟩
set_option maxRecDepth 100000 in
theorem requests_11 (w : World) : Calls Tryd.prog 21 #[.int .i64 11] w (RqAns (rqRow 11) w) := by
  go_enter Tryd.func21, Tryd.ntmps21
  go_wp2
  go_ret
  exact ⟨_, _, rfl, rfl, fun _ => ⟨_, rfl, last2 _ _ _⟩, below2 _ _ _⟩
set_option maxRecDepth 100000 in
theorem requests_12 (w : World) : Calls Tryd.prog 21 #[.int .i64 12] w (RqAns (rqRow 12) w) := by
  go_enter Tryd.func21, Tryd.ntmps21
  go_wp2
  go_ret
  exact ⟨_, _, rfl, rfl, fun _ => ⟨_, rfl, last2 _ _ _⟩, below2 _ _ _⟩
set_option maxRecDepth 100000 in
theorem requests_13 (w : World) : Calls Tryd.prog 21 #[.int .i64 13] w (RqAns (rqRow 13) w) := by
  go_enter Tryd.func21, Tryd.ntmps21
  go_wp2
  go_ret
  exact ⟨_, _, rfl, rfl, fun _ => ⟨_, rfl, last2 _ _ _⟩, below2 _ _ _⟩
set_option maxRecDepth 100000 in
theorem requests_14 (w : World) : Calls Tryd.prog 21 #[.int .i64 14] w (RqAns (rqRow 14) w) := by
  go_enter Tryd.func21, Tryd.ntmps21
  go_wp2
  go_ret
  exact ⟨_, _, rfl, rfl, fun _ => ⟨_, rfl, last2 _ _ _⟩, below2 _ _ _⟩
set_option maxRecDepth 100000 in
theorem requests_15 (w : World) : Calls Tryd.prog 21 #[.int .i64 15] w (RqAns (rqRow 15) w) := by
  go_enter Tryd.func21, Tryd.ntmps21
  go_wp2
  go_ret
  exact ⟨_, _, rfl, rfl, fun _ => ⟨_, rfl, last2 _ _ _⟩, below2 _ _ _⟩
set_option maxRecDepth 100000 in
theorem requests_16 (w : World) : Calls Tryd.prog 21 #[.int .i64 16] w (RqAns (rqRow 16) w) := by
  go_enter Tryd.func21, Tryd.ntmps21
  go_wp2
  go_ret
  exact ⟨_, _, rfl, rfl, fun _ => ⟨_, rfl, last2 _ _ _⟩, below2 _ _ _⟩
set_option maxRecDepth 100000 in
theorem requests_17 (w : World) : Calls Tryd.prog 21 #[.int .i64 17] w (RqAns (rqRow 17) w) := by
  go_enter Tryd.func21, Tryd.ntmps21
  go_wp2
  go_ret
  exact ⟨_, _, rfl, rfl, fun _ => ⟨_, rfl, last2 _ _ _⟩, below2 _ _ _⟩
set_option maxRecDepth 100000 in
theorem requests_none (f : Int) (w : World) (h : ¬ f = 1 ∧ ¬ f = 2 ∧ ¬ f = 4 ∧ ¬ f = 5 ∧ ¬ f = 6 ∧ ¬ f = 7 ∧ ¬ f = 8 ∧ ¬ f = 9 ∧ ¬ f = 10 ∧ ¬ f = 11 ∧ ¬ f = 12 ∧ ¬ f = 13 ∧ ¬ f = 14 ∧ ¬ f = 15 ∧ ¬ f = 16 ∧ ¬ f = 17) (he : rqRow f = []) : Calls Tryd.prog 21 #[.int .i64 f] w (RqAns (rqRow f) w) := by
  rw [he]
  obtain ⟨h1, h2, h4, h5, h6, h7, h8, h9, h10, h11, h12, h13, h14, h15, h16, h17⟩ := h
  clear he
  go_enter Tryd.func21, Tryd.ntmps21
  go_wp2
  go_ret
  exact ⟨_, _, rfl, rfl, fun h => absurd h (by decide), below1 _ _⟩
set_option maxRecDepth 100000 in
theorem events_1 (w : World) : Calls Tryd.prog 23 #[.int .i64 1] w (EvAns (evRow 1) w) := by
  go_enter Tryd.func23, Tryd.ntmps23
  go_wp2
  go_ret
  exact ⟨_, _, rfl, rfl, fun _ => ⟨_, rfl, heap_alloc_last _ _⟩, below1 _ _⟩
set_option maxRecDepth 100000 in
theorem events_2 (w : World) : Calls Tryd.prog 23 #[.int .i64 2] w (EvAns (evRow 2) w) := by
  go_enter Tryd.func23, Tryd.ntmps23
  go_wp2
  go_ret
  exact ⟨_, _, rfl, rfl, fun _ => ⟨_, rfl, heap_alloc_last _ _⟩, below1 _ _⟩
set_option maxRecDepth 100000 in
theorem events_3 (w : World) : Calls Tryd.prog 23 #[.int .i64 3] w (EvAns (evRow 3) w) := by
  go_enter Tryd.func23, Tryd.ntmps23
  go_wp2
  go_ret
  exact ⟨_, _, rfl, rfl, fun _ => ⟨_, rfl, heap_alloc_last _ _⟩, below1 _ _⟩
set_option maxRecDepth 100000 in
theorem events_5 (w : World) : Calls Tryd.prog 23 #[.int .i64 5] w (EvAns (evRow 5) w) := by
  go_enter Tryd.func23, Tryd.ntmps23
  go_wp2
  go_ret
  exact ⟨_, _, rfl, rfl, fun _ => ⟨_, rfl, heap_alloc_last _ _⟩, below1 _ _⟩
set_option maxRecDepth 100000 in
theorem events_7 (w : World) : Calls Tryd.prog 23 #[.int .i64 7] w (EvAns (evRow 7) w) := by
  go_enter Tryd.func23, Tryd.ntmps23
  go_wp2
  go_ret
  exact ⟨_, _, rfl, rfl, fun _ => ⟨_, rfl, heap_alloc_last _ _⟩, below1 _ _⟩
set_option maxRecDepth 100000 in
theorem events_12 (w : World) : Calls Tryd.prog 23 #[.int .i64 12] w (EvAns (evRow 12) w) := by
  go_enter Tryd.func23, Tryd.ntmps23
  go_wp2
  go_ret
  exact ⟨_, _, rfl, rfl, fun _ => ⟨_, rfl, heap_alloc_last _ _⟩, below1 _ _⟩
set_option maxRecDepth 100000 in
theorem events_13 (w : World) : Calls Tryd.prog 23 #[.int .i64 13] w (EvAns (evRow 13) w) := by
  go_enter Tryd.func23, Tryd.ntmps23
  go_wp2
  go_ret
  exact ⟨_, _, rfl, rfl, fun _ => ⟨_, rfl, heap_alloc_last _ _⟩, below1 _ _⟩
set_option maxRecDepth 100000 in
theorem events_14 (w : World) : Calls Tryd.prog 23 #[.int .i64 14] w (EvAns (evRow 14) w) := by
  go_enter Tryd.func23, Tryd.ntmps23
  go_wp2
  go_ret
  exact ⟨_, _, rfl, rfl, fun _ => ⟨_, rfl, heap_alloc_last _ _⟩, below1 _ _⟩
set_option maxRecDepth 100000 in
theorem events_15 (w : World) : Calls Tryd.prog 23 #[.int .i64 15] w (EvAns (evRow 15) w) := by
  go_enter Tryd.func23, Tryd.ntmps23
  go_wp2
  go_ret
  exact ⟨_, _, rfl, rfl, fun _ => ⟨_, rfl, heap_alloc_last _ _⟩, below1 _ _⟩
set_option maxRecDepth 100000 in
theorem events_16 (w : World) : Calls Tryd.prog 23 #[.int .i64 16] w (EvAns (evRow 16) w) := by
  go_enter Tryd.func23, Tryd.ntmps23
  go_wp2
  go_ret
  exact ⟨_, _, rfl, rfl, fun _ => ⟨_, rfl, heap_alloc_last _ _⟩, below1 _ _⟩
set_option maxRecDepth 100000 in
theorem events_17 (w : World) : Calls Tryd.prog 23 #[.int .i64 17] w (EvAns (evRow 17) w) := by
  go_enter Tryd.func23, Tryd.ntmps23
  go_wp2
  go_ret
  exact ⟨_, _, rfl, rfl, fun _ => ⟨_, rfl, heap_alloc_last _ _⟩, below1 _ _⟩
set_option maxRecDepth 100000 in
theorem events_none (f : Int) (w : World) (h : ¬ f = 1 ∧ ¬ f = 2 ∧ ¬ f = 3 ∧ ¬ f = 5 ∧ ¬ f = 7 ∧ ¬ f = 12 ∧ ¬ f = 13 ∧ ¬ f = 14 ∧ ¬ f = 15 ∧ ¬ f = 16 ∧ ¬ f = 17) (he : evRow f = []) : Calls Tryd.prog 23 #[.int .i64 f] w (EvAns (evRow f) w) := by
  rw [he]
  obtain ⟨h1, h2, h3, h5, h7, h12, h13, h14, h15, h16, h17⟩ := h
  clear he
  go_enter Tryd.func23, Tryd.ntmps23
  go_wp2
  go_ret
  exact ⟨_, _, rfl, rfl, fun h => absurd h (by decide), Below.refl _ _⟩

theorem requests_any (f : Int) (w : World) : Calls Tryd.prog 21 #[.int .i64 f] w (RqAns (rqRow f) w) := by
  by_cases h1 : f = 1
  · subst h1; exact requests_1 w
  by_cases h2 : f = 2
  · subst h2; exact requests_2 w
  by_cases h4 : f = 4
  · subst h4; exact requests_4 w
  by_cases h5 : f = 5
  · subst h5; exact requests_5 w
  by_cases h6 : f = 6
  · subst h6; exact requests_6 w
  by_cases h7 : f = 7
  · subst h7; exact requests_7 w
  by_cases h8 : f = 8
  · subst h8; exact requests_8 w
  by_cases h9 : f = 9
  · subst h9; exact requests_9 w
  by_cases h10 : f = 10
  · subst h10; exact requests_10 w
  by_cases h11 : f = 11
  · subst h11; exact requests_11 w
  by_cases h12 : f = 12
  · subst h12; exact requests_12 w
  by_cases h13 : f = 13
  · subst h13; exact requests_13 w
  by_cases h14 : f = 14
  · subst h14; exact requests_14 w
  by_cases h15 : f = 15
  · subst h15; exact requests_15 w
  by_cases h16 : f = 16
  · subst h16; exact requests_16 w
  by_cases h17 : f = 17
  · subst h17; exact requests_17 w
  refine requests_none f w ⟨h1, h2, h4, h5, h6, h7, h8, h9, h10, h11, h12, h13, h14, h15, h16, h17⟩ ?_
  rw [rqRow]
  split
  · rename_i h
    rcases Nat.lt_or_ge f.toNat 18 with h' | h'
    · have hx : f.toNat = 0 ∨ f.toNat = 3 := by omega
      rcases hx with hx | hx <;> rw [hx] <;> rfl
    · exact getD_far rqT _ h'
  · rfl

theorem events_any (f : Int) (w : World) : Calls Tryd.prog 23 #[.int .i64 f] w (EvAns (evRow f) w) := by
  by_cases h1 : f = 1
  · subst h1; exact events_1 w
  by_cases h2 : f = 2
  · subst h2; exact events_2 w
  by_cases h3 : f = 3
  · subst h3; exact events_3 w
  by_cases h5 : f = 5
  · subst h5; exact events_5 w
  by_cases h7 : f = 7
  · subst h7; exact events_7 w
  by_cases h12 : f = 12
  · subst h12; exact events_12 w
  by_cases h13 : f = 13
  · subst h13; exact events_13 w
  by_cases h14 : f = 14
  · subst h14; exact events_14 w
  by_cases h15 : f = 15
  · subst h15; exact events_15 w
  by_cases h16 : f = 16
  · subst h16; exact events_16 w
  by_cases h17 : f = 17
  · subst h17; exact events_17 w
  refine events_none f w ⟨h1, h2, h3, h5, h7, h12, h13, h14, h15, h16, h17⟩ ?_
  rw [evRow]
  split
  · rename_i h
    rcases Nat.lt_or_ge f.toNat 18 with h' | h'
    · have hx : f.toNat = 0 ∨ f.toNat = 4 ∨ f.toNat = 6 ∨ f.toNat = 8 ∨ f.toNat = 9 ∨ f.toNat = 10 ∨ f.toNat = 11 := by omega
      rcases hx with hx | hx | hx | hx | hx | hx | hx <;> rw [hx] <;> rfl
    · exact getD_far evT _ h'
  · rfl
end Go.Proofs.YtadklnjkkmfhdaaDoor
