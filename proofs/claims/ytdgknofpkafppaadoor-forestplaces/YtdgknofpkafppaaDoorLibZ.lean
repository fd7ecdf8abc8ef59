/- Calls of a thing that answer with something in memory. No program. -/
import Derived.Test.YtdgknofpkafppaaDoorLibY
namespace Go.Proofs.YtdgknofpkafppaaDoor
open Go Go.RowKit

variable {B : Nat} {A A' C C' : Th} {w w' w'' : World} {X Y Z : List Nat} {P : Program} {f : Nat} {args : Array Value} {Q : Ending → World → Prop}
/-- A function's contract on a thing: what it answers is told by Q, and it leaves A'. -/
def Cq (P : Program) (f : Nat) (args : Array Value) (A A' : Th) (Q : Ending → World → Prop) : Prop := ∀ w X, A w X → Calls P f args w fun e w' => Q e w' ∧ Nx A' X w w'
theorem Cq.left (h : Cq P f args A A' Q) (hA : Ft B A) (hC : Ft B C) : Cq P f args (sbs A C) (sbs A' C) Q := fun w Z hZ => by
  obtain ⟨X, Y, h1, h2, h3, rfl⟩ := hZ
  exact (h w X h1).mono fun _ _ ⟨h4, h5⟩ => ⟨h4, h5.left hA hC h1 h2 h3⟩
theorem Cq.right (h : Cq P f args C C' Q) (hA : Ft B A) (hC : Ft B C) : Cq P f args (sbs A C) (sbs A C') Q := fun w Z hZ => by
  obtain ⟨X, Y, h1, h2, h3, rfl⟩ := hZ
  exact (h w Y h2).mono fun _ _ ⟨h4, h5⟩ => ⟨h4, h5.right hA hC h1 h2 h3⟩
theorem Ct.cq {r : Value} (h : Ct P f args A A' r) : Cq P f args A A' fun e _ => e = .returned r := h
theorem Cq.weak {A'' : Th} (h : Cq P f args A A' Q) (hw : ∀ w X, A' w X → A'' w X) : Cq P f args A A'' Q := fun w X hX => (h w X hX).mono fun _ _ ⟨h1, X', h2, h3⟩ => ⟨h1, X', hw _ _ h2, h3⟩
theorem Cq.imp {Q' : Ending → World → Prop} (h : Cq P f args A A' Q) (hw : ∀ e w, Q e w → Q' e w) : Cq P f args A A' Q' := fun w X hX => (h w X hX).mono fun _ _ ⟨h1, h2⟩ => ⟨hw _ _ h1, h2⟩
theorem Cq.ex (h : Cq P f args A A' Q) (hx : Ex A w) : Calls P f args w fun e w' => Q e w' ∧ Ex A' w' := by
  obtain ⟨X, hX⟩ := hx
  exact (h w X hX).mono fun _ _ ⟨h1, X', h2, _⟩ => ⟨h1, X', h2⟩
/-- A row of one's own, as a thing. -/
def own3 (B T m : Nat) (v : Value) (n : Nat) (xs : List Value) : Th := fun w X => w.ownsRow B T m v n xs ∧ X = v.ownBlock.toList
theorem own3_ft {B T m : Nat} {v : Value} {n : Nat} {xs : List Value} : Ft B (own3 B T m v n xs) := by
  refine ⟨fun {w X} h b hb => ?_, fun {w w' X Y} h hk _ hX => ?_⟩
  · obtain ⟨h1, rfl⟩ := h
    exact h1.lt b (by simpa using hb)
  · obtain ⟨h1, rfl⟩ := h
    exact ⟨hk.row h1 (fun k hk => hX k (by simp [hk])), rfl⟩
/-- A slice that is read, as a thing: no block of it is written. -/
theorem Nx.kp_of {A : Th} (h : Nx A X w w') : Kp X w w' := by
  obtain ⟨_, _, h, _⟩ := h
  exact h
/-- A first thing of a pair kept while the second one turns, and the pair's parts. -/
theorem sbs_mk (h1 : A w X) (h2 : C w Y) (h3 : ∀ b ∈ X, b ∉ Y) : Ex (sbs A C) w := ⟨_, X, Y, h1, h2, h3, rfl⟩
/-- The second one is put away for another that lies in its blocks, or in new ones. -/
theorem sbs_swap (hA : Ft B A) (hC : Ft B C) (h : Ex (sbs A C) w) {Q : Prop} (hc : ∀ Y, C w Y → ∃ Y', C' w' Y' ∧ Kp Y w w' ∧ (∀ b ∈ Y', b ∈ Y ∨ w.heap.size ≤ b) ∧ Q) : Ex (sbs A C') w' ∧ Q := by
  obtain ⟨_, X, Y, h1, h2, h3, rfl⟩ := h
  obtain ⟨Y', h4, h5, h6, h7⟩ := hc Y h2
  obtain ⟨Z', h8, _⟩ := Nx.right hA hC h1 h2 h3 ⟨Y', h4, h5, h6⟩
  exact ⟨⟨Z', h8⟩, h7⟩
end Go.Proofs.YtdgknofpkafppaaDoor
