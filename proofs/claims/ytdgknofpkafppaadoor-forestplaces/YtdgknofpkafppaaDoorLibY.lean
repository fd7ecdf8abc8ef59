/- Things of one's own beside one another, each in blocks of its own; what a call does to one of them. No program. -/
import Derived.Test.YtdgknofpkafppaaDoorBa
namespace Go.Proofs.YtdgknofpkafppaaDoor
open Go Go.RowKit

/-- A thing in memory, and the blocks that it lies in. -/
abbrev Th := World → List Nat → Prop
/-- Its blocks lie from B on; it stays where none of them turns. -/
structure Ft (B : Nat) (A : Th) : Prop where
  lt : ∀ {w : World} {X : List Nat}, A w X → ∀ b ∈ X, B ≤ b ∧ b < w.heap.size
  kept : ∀ {w w' : World} {X Y : List Nat}, A w X → Kp Y w w' → (∀ b ∈ Y, B ≤ b) → (∀ b ∈ X, b ∉ Y) → A w' X
/-- What a call leaves of it: only its blocks turned, others of it are new. -/
def Nx (A : Th) (X : List Nat) (w w' : World) : Prop := ∃ X', A w' X' ∧ Kp X w w' ∧ ∀ b ∈ X', b ∈ X ∨ w.heap.size ≤ b
/-- Two beside one another. -/
def sbs (A C : Th) : Th := fun w Z => ∃ X Y, A w X ∧ C w Y ∧ (∀ b ∈ X, b ∉ Y) ∧ Z = X ++ Y
variable {B : Nat} {A A' C C' : Th} {w w' w'' : World} {X Y Z : List Nat}
theorem Ft.on (hA : Ft B A) (h : A w X) (hb : Below w.heap.size w w') : A w' X := hA.kept h (kp_of_below hb []) (by simp) (by simp)
theorem Nx.refl (hA : Ft B A) (h : A w X) (hb : Below w.heap.size w w') : Nx A X w w' := ⟨X, hA.on h hb, kp_of_below hb _, fun _ h => .inl h⟩
theorem Nx.trans {A'' : Th} {X1 : List Nat} (h : A' w' X1 ∧ Kp X w w' ∧ ∀ b ∈ X1, b ∈ X ∨ w.heap.size ≤ b) (h' : Nx A'' X1 w' w'') : Nx A'' X w w'' := by
  obtain ⟨_, h2, h3⟩ := h
  obtain ⟨X2, h4, h5, h6⟩ := h'
  refine ⟨X2, h4, h2.trans h5 (fun b hb hlt => ?_), fun b hb => ?_⟩
  · rcases h3 b hb with h | h
    · exact h
    · omega
  · rcases h6 b hb with h | h
    · exact h3 b h
    · exact .inr (Nat.le_trans h2.size h)
theorem sbs_ft (hA : Ft B A) (hC : Ft B C) : Ft B (sbs A C) := by
  refine ⟨fun {w X} h b hb => ?_, fun {w w' X Y} h hk hY hX => ?_⟩
  · obtain ⟨X1, Y1, h1, h2, _, rfl⟩ := h
    rcases List.mem_append.1 hb with hb | hb
    · exact hA.lt h1 b hb
    · exact hC.lt h2 b hb
  · obtain ⟨X1, Y1, h1, h2, h3, rfl⟩ := h
    exact ⟨X1, Y1, hA.kept h1 hk hY (fun b hb => hX b (List.mem_append_left _ hb)), hC.kept h2 hk hY (fun b hb => hX b (List.mem_append_right _ hb)), h3, rfl⟩
/-- A call of the first one. -/
theorem Nx.left (hA : Ft B A) (hC : Ft B C) (h1 : A w X) (h2 : C w Y) (hd : ∀ b ∈ X, b ∉ Y) (h : Nx A' X w w') : Nx (sbs A' C) (X ++ Y) w w' := by
  obtain ⟨X', h3, h4, h5⟩ := h
  refine ⟨X' ++ Y, ⟨X', Y, h3, hC.kept h2 h4 (fun b hb => (hA.lt h1 b hb).1) (fun b hb hm => hd b hm hb), fun b hb hm => ?_, rfl⟩, h4.mono (fun b hb _ => List.mem_append_left _ hb), fun b hb => ?_⟩
  · rcases h5 b hb with h | h
    · exact hd b h hm
    · have := (hC.lt h2 b hm).2
      omega
  · rcases List.mem_append.1 hb with hb | hb
    · exact (h5 b hb).imp (fun h => List.mem_append_left _ h) (fun h => h)
    · exact .inl (List.mem_append_right _ hb)
/-- A call of the second one. -/
theorem Nx.right (hA : Ft B A) (hC : Ft B C) (h1 : A w X) (h2 : C w Y) (hd : ∀ b ∈ X, b ∉ Y) (h : Nx C' Y w w') : Nx (sbs A C') (X ++ Y) w w' := by
  obtain ⟨Y', h3, h4, h5⟩ := h
  refine ⟨X ++ Y', ⟨X, Y', hA.kept h1 h4 (fun b hb => (hC.lt h2 b hb).1) hd, h3, fun b hb hm => ?_, rfl⟩, h4.mono (fun b hb _ => List.mem_append_right _ hb), fun b hb => ?_⟩
  · rcases h5 b hm with h | h
    · exact hd b hb h
    · have := (hA.lt h1 b hb).2
      omega
  · rcases List.mem_append.1 hb with hb | hb
    · exact .inl (List.mem_append_left _ hb)
    · exact (h5 b hb).imp (fun h => List.mem_append_right _ h) (fun h => h)

/-- A function's contract on a thing: with these arguments it answers r and leaves A'. -/
def Ct (P : Program) (f : Nat) (args : Array Value) (A A' : Th) (r : Value) : Prop := ∀ w X, A w X → Calls P f args w fun e w' => e = .returned r ∧ Nx A' X w w'
variable {P : Program} {f : Nat} {args : Array Value} {r : Value}
theorem Ct.left (h : Ct P f args A A' r) (hA : Ft B A) (hC : Ft B C) : Ct P f args (sbs A C) (sbs A' C) r := fun w Z hZ => by
  obtain ⟨X, Y, h1, h2, h3, rfl⟩ := hZ
  exact (h w X h1).mono fun _ _ ⟨h4, h5⟩ => ⟨h4, h5.left hA hC h1 h2 h3⟩
theorem Ct.right (h : Ct P f args C C' r) (hA : Ft B A) (hC : Ft B C) : Ct P f args (sbs A C) (sbs A C') r := fun w Z hZ => by
  obtain ⟨X, Y, h1, h2, h3, rfl⟩ := hZ
  exact (h w Y h2).mono fun _ _ ⟨h4, h5⟩ => ⟨h4, h5.right hA hC h1 h2 h3⟩
/-- The thing alone, its blocks left unsaid; w0: where the law began. -/
def Ex (A : Th) (w : World) : Prop := ∃ X, A w X
theorem Ex.on (hA : Ft B A) (h : Ex A w) (hb : Below w.heap.size w w') : Ex A w' := let ⟨X, h⟩ := h; ⟨X, hA.on h hb⟩
theorem Ct.ex (h : Ct P f args A A' r) (hx : Ex A w) : Calls P f args w fun e w' => e = .returned r ∧ Ex A' w' := by
  obtain ⟨X, hX⟩ := hx
  exact (h w X hX).mono fun _ _ ⟨h1, X', h2, _⟩ => ⟨h1, X', h2⟩
/-- A new thing, made by a call, beside what is there. -/
theorem sbs_new (hA : Ft B A) (h1 : A w X) (hb : Below w.heap.size w w') (h2 : C w' Y) (hY : ∀ b ∈ Y, w.heap.size ≤ b) : sbs A C w' (X ++ Y) :=
  ⟨X, Y, hA.on h1 hb, h2, fun b hb hm => by
    have := (hA.lt h1 b hb).2
    have := hY b hm
    omega, rfl⟩
/-- A block whole, as a thing. -/
def blk (g T : Nat) (cs : Array Value) : Th := fun w X => w.heap[g]? = some (.cells cs T (0, 0)) ∧ X = [g]
theorem blk_ft {g T : Nat} {cs : Array Value} (hg : B ≤ g) : Ft B (blk g T cs) := by
  refine ⟨fun {w X} h b hb => ?_, fun {w w' X Y} h hk _ hX => ?_⟩
  · obtain ⟨h1, rfl⟩ := h
    obtain rfl := List.mem_singleton.1 hb
    exact ⟨hg, (Array.getElem?_eq_some_iff.1 h1).1⟩
  · obtain ⟨h1, rfl⟩ := h
    exact ⟨hk.var h1 (hX g (by simp)), rfl⟩
end Go.Proofs.YtdgknofpkafppaaDoor
