/- Lemmas that the proof leans on. -/
import Derived.RangeFuncWrites
import Derived.RangeFuncBound
import Derived.RangeFuncCalls
import Derived.OrdersIn
import Derived.Test.YtpbgbpcdohdecaaGreatDoorB08
namespace Go.Proofs.YtpbgbpcdohdecaaGreatDoor
open Go Go.RowKit
set_option maxRecDepth 100000
section
def anm (k : Nat) (n : Int) : AV := ⟨k, n, ⟨#[]⟩⟩
structure Evt where
 face : Int
 o : Int
 q : Int
 l : List AV
def tla (face q : Int) (ns : List Int) : List AV := List.zipWith (fun z n => anm z.toNat n) (evS face q) ns
structure Kl where
 ids : Int → Int × Int
 mem : Kb_MemP
 png : Option (Int × Int)
 ev : List Evt
 ks : List (Int × Int)
 bs : List (Int × Int)
 rs : List (Int × List Rc)
 ss : List (Int × Int)
 ws : List (Int × Int)
def kl0 : Kl := ⟨s0, fun _ => none, none, [], [], [], [], [], []⟩
namespace Kl
variable (k : Kl)
def esend (face o q : Int) (l : List AV) : Kl := { k with ev := k.ev ++ [⟨face, o, q, l⟩] }
def etell (face o q : Int) (ns : List Int) : Kl := k.esend face o q (tla face q ns)
end Kl
structure Dsk where
 cl : List (Option Kl)
 ser : Int
 tk : Int
 tm : Int
 W : Nat
 H : Nat
 px : List Int
 pl : PL
 bf : BL
 ow : List (Int × List Int)
 nb : Int
 us : List Int
 told : List Int
 fo : Fo
 sh : Wo
 stk : List Int
 pls : List (Int × List Int)
 npl : Int
 x : Int
 y : Int
 P : Int
 K : Int
namespace Dsk
variable (d : Dsk)
def kli (i : Int) : Option Kl := if 1 ≤ i then (d.cl[(i - 1).toNat]?).join else none
def kput (i : Int) (k : Kl) : Dsk := { d with cl := d.cl.set (i - 1).toNat (some k) }
end Dsk
def ds0 (W H : Nat) (px : List Int) : Dsk := ⟨[], 0, 0, 0, W, H, px, [], [], [], 0, [], [], [], [], [], [], 0, 0, 0, 0, 0⟩
structure Dok (mm : Nat) (d : Dsk) : Prop where
 mx : mm ≤ 900
 ser : 0 ≤ d.ser ∧ d.ser ≤ 10 * mm
 tk : 0 ≤ d.tk ∧ d.tk ≤ mm
 tm : 0 ≤ d.tm ∧ d.tm < 4294967296
 nb : 0 ≤ d.nb ∧ d.nb ≤ mm
 npl : 0 ≤ d.npl ∧ d.npl ≤ mm
 cl : d.cl.length ≤ 6
 ev : ∀ k, some k ∈ d.cl → k.ev.length ≤ 3000 * mm
 pl : d.pl.length ≤ mm
 bf : d.bf.length ≤ mm
 us : d.us.length ≤ 1000000
 told : d.told.length ≤ 1000000 * mm
 stk : d.stk.length ≤ mm
theorem Dok.mono {mm n : Nat} {d : Dsk} (h : Dok mm d) (hn : mm ≤ n) (hx : n ≤ 900) : Dok n d := by
 obtain ⟨_, h1, h2, h3, h4, h5, h6, h7, h8, h9, h10, h11, h12⟩ := h
 exact ⟨hx, by omega, by omega, h3, by omega, by omega, h6, fun k hk => Nat.le_trans (h7 k hk) (Nat.mul_le_mul_left _ hn), by omega, by omega, h10, by omega, by omega⟩
theorem dok0 (W H : Nat) (px : List Int) : Dok 0 (ds0 W H px) := by
 refine ⟨by decide, ?_, ?_, ?_, ?_, ?_, ?_, fun k h => absurd h (List.not_mem_nil), ?_, ?_, ?_, ?_, ?_⟩ <;> simp [ds0]
theorem mem_set_or {α : Type} {l : List α} {j : Nat} {v x : α} (h : x ∈ l.set j v) : x = v ∨ x ∈ l := by
 rcases List.mem_or_eq_of_mem_set h with h | h
 ·exact .inr h
 ·exact .inl h
theorem Dok.kput_ {mm n : Nat} {d : Dsk} (h : Dok mm d) (i : Int) {k : Kl} (hn : mm ≤ n) (hx : n ≤ 900) (hk : k.ev.length ≤ 3000 * n) : Dok n (d.kput i k) := by
 have h' := h.mono hn hx
 obtain ⟨h0, h1, h2, h3, h4, h5, h6, h7, h8, h9, h10, h11, h12⟩ := h'
 refine ⟨h0, h1, h2, h3, h4, h5, by simpa [Dsk.kput] using h6, fun k' hk' => ?_, h8, h9, h10, h11, h12⟩
 rcases mem_set_or hk' with e | e
 ·cases e
  exact hk
 ·exact h7 k' e
theorem Dsk.kli_at {d : Dsk} {i : Int} {k : Kl} (h : d.kli i = some k) : 1 ≤ i ∧ d.cl[(i - 1).toNat]? = some (some k) := by
 unfold Dsk.kli at h
 split at h
 ·rename_i hi
  refine ⟨hi, ?_⟩
  cases hg : d.cl[(i - 1).toNat]? with
  | none => rw [hg] at h; cases h
  | some x => rw [hg] at h; rw [← h]; rfl
 ·cases h
theorem Dsk.kli_lt {d : Dsk} {i : Int} {k : Kl} (h : d.kli i = some k) : (i - 1).toNat < d.cl.length := (List.getElem?_eq_some_iff.1 (Dsk.kli_at h).2).1
theorem Dsk.kli_put {d : Dsk} {i : Int} {k k' : Kl} (h : d.kli i = some k) : (d.kput i k').kli i = some k' := by
 have h1 := Dsk.kli_lt h
 rw [Dsk.kli, if_pos (Dsk.kli_at h).1, Dsk.kput]
 simp only [List.getElem?_set_self h1]
 rfl
theorem Dsk.kput_kput {d : Dsk} {i : Int} {k k' : Kl} : (d.kput i k).kput i k' = d.kput i k' := by
 simp [Dsk.kput]
theorem Dok.evl {mm : Nat} {d : Dsk} (h : Dok mm d) {i : Int} {k : Kl} (hk : d.kli i = some k) : k.ev.length ≤ 3000 * mm :=
 h.ev k (List.mem_of_getElem? (Dsk.kli_at hk).2)
end
section
abbrev Th := World → List Nat → Prop
structure Ft (B : Nat) (A : Th) : Prop where
 lt : ∀ {w : World} {X : List Nat}, A w X → ∀ b ∈ X, B ≤ b ∧ b < w.heap.size
 kept : ∀ {w w' : World} {X Y : List Nat}, A w X → Kp Y w w' → (∀ b ∈ Y, B ≤ b) → (∀ b ∈ X, b ∉ Y) → A w' X
def Nx (A : Th) (X : List Nat) (w w' : World) : Prop := ∃ X', A w' X' ∧ Kp X w w' ∧ ∀ b ∈ X', b ∈ X ∨ w.heap.size ≤ b
def sbs (A C : Th) : Th := fun w Z => ∃ X Y, A w X ∧ C w Y ∧ (∀ b ∈ X, b ∉ Y) ∧ Z = X ++ Y
variable {B : Nat} {A A' C C' : Th} {w w' w'' : World} {X Y Z : List Nat}
theorem Ft.on (hA : Ft B A) (h : A w X) (hb : Below w.heap.size w w') : A w' X := hA.kept h (kp_of_below hb []) (by simp) (by simp)
theorem Nx.refl (hA : Ft B A) (h : A w X) (hb : Below w.heap.size w w') : Nx A X w w' := ⟨X, hA.on h hb, kp_of_below hb _, fun _ h => .inl h⟩
theorem Nx.trans {A'' : Th} {X1 : List Nat} (h : A' w' X1 ∧ Kp X w w' ∧ ∀ b ∈ X1, b ∈ X ∨ w.heap.size ≤ b) (h' : Nx A'' X1 w' w'') : Nx A'' X w w'' := by
 obtain ⟨_, h2, h3⟩ := h
 obtain ⟨X2, h4, h5, h6⟩ := h'
 refine ⟨X2, h4, h2.trans h5 (fun b hb hlt => ?_), fun b hb => ?_⟩
 ·rcases h3 b hb with h | h
  ·exact h
  ·omega
 ·rcases h6 b hb with h | h
  ·exact h3 b h
  ·exact .inr (Nat.le_trans h2.size h)
theorem sbs_ft (hA : Ft B A) (hC : Ft B C) : Ft B (sbs A C) := by
 refine ⟨fun {w X} h b hb => ?_, fun {w w' X Y} h hk hY hX => ?_⟩
 ·obtain ⟨X1, Y1, h1, h2, _, rfl⟩ := h
  rcases List.mem_append.1 hb with hb | hb
  ·exact hA.lt h1 b hb
  ·exact hC.lt h2 b hb
 ·obtain ⟨X1, Y1, h1, h2, h3, rfl⟩ := h
  exact ⟨X1, Y1, hA.kept h1 hk hY (fun b hb => hX b (List.mem_append_left _ hb)), hC.kept h2 hk hY (fun b hb => hX b (List.mem_append_right _ hb)), h3, rfl⟩
theorem Nx.left (hA : Ft B A) (hC : Ft B C) (h1 : A w X) (h2 : C w Y) (hd : ∀ b ∈ X, b ∉ Y) (h : Nx A' X w w') : Nx (sbs A' C) (X ++ Y) w w' := by
 obtain ⟨X', h3, h4, h5⟩ := h
 refine ⟨X' ++ Y, ⟨X', Y, h3, hC.kept h2 h4 (fun b hb => (hA.lt h1 b hb).1) (fun b hb hm => hd b hm hb), fun b hb hm => ?_, rfl⟩, h4.mono (fun b hb _ => List.mem_append_left _ hb), fun b hb => ?_⟩
 ·rcases h5 b hb with h | h
  ·exact hd b h hm
  ·have := (hC.lt h2 b hm).2
   omega
 ·rcases List.mem_append.1 hb with hb | hb
  ·exact (h5 b hb).imp (fun h => List.mem_append_left _ h) (fun h => h)
  ·exact .inl (List.mem_append_right _ hb)
theorem Nx.right (hA : Ft B A) (hC : Ft B C) (h1 : A w X) (h2 : C w Y) (hd : ∀ b ∈ X, b ∉ Y) (h : Nx C' Y w w') : Nx (sbs A C') (X ++ Y) w w' := by
 obtain ⟨Y', h3, h4, h5⟩ := h
 refine ⟨X ++ Y', ⟨X, Y', hA.kept h1 h4 (fun b hb => (hC.lt h2 b hb).1) hd, h3, fun b hb hm => ?_, rfl⟩, h4.mono (fun b hb _ => List.mem_append_right _ hb), fun b hb => ?_⟩
 ·rcases h5 b hm with h | h
  ·exact hd b hb h
  ·have := (hA.lt h1 b hb).2
   omega
 ·rcases List.mem_append.1 hb with hb | hb
  ·exact .inl (List.mem_append_left _ hb)
  ·exact (h5 b hb).imp (fun h => List.mem_append_right _ h) (fun h => h)
def Ct_LibY (P : Program) (f : Nat) (args : Array Value) (A A' : Th) (r : Value) : Prop := ∀ w X, A w X → Calls P f args w fun e w' => e = .returned r ∧ Nx A' X w w'
variable {P : Program} {f : Nat} {args : Array Value} {r : Value}
end
section
variable {B : Nat} {A A' C C' : Th} {w w' w'' : World} {X Y Z : List Nat} {P : Program} {f : Nat} {args : Array Value} {Q : Ending → World → Prop}
theorem Nx.kp_of {A : Th} (h : Nx A X w w') : Kp X w w' := by
 obtain ⟨_, _, h, _⟩ := h
 exact h
end
section
def alls : List Th → Th
 | [] => fun _ Z => Z = []
 | A :: l => sbs A (alls l)
variable {B : Nat} {A A' C : Th} {l l' pre post : List Th} {w w' : World} {X Z : List Nat} {P : Program} {f : Nat} {args : Array Value} {Q : Ending → World → Prop}
theorem alls_ft {l : List Th} (h : ∀ A ∈ l, Ft B A) : Ft B (alls l) := by
 induction l with
 | nil =>
  refine ⟨fun {w X} h b hb => ?_, fun {w w' X Y} h _ _ _ => h⟩
  obtain rfl : X = [] := h
  cases hb
 | cons A l ih => exact sbs_ft (h _ (List.mem_cons_self ..)) (ih fun A hA => h A (List.mem_cons_of_mem _ hA))
theorem alls_perm (h : l.Perm l') : ∀ {Z : List Nat}, alls l w Z → ∃ Z', alls l' w Z' ∧ ∀ b, b ∈ Z' ↔ b ∈ Z := by
 induction h with
 | nil => exact fun {Z} h => ⟨Z, h, fun _ => Iff.rfl⟩
 | cons A _ ih =>
  intro Z h
  obtain ⟨X, Y, h1, h2, h3, rfl⟩ := h
  obtain ⟨Y', h4, h5⟩ := ih h2
  exact ⟨X ++ Y', ⟨X, Y', h1, h4, fun b hb hm => h3 b hb ((h5 b).1 hm), rfl⟩, fun b => by simp only [List.mem_append, h5]⟩
 | swap A C l =>
  intro Z h
  obtain ⟨X, Y, h1, ⟨X2, Y2, h2, h3, h4, rfl⟩, h5, rfl⟩ := h
  refine ⟨X2 ++ (X ++ Y2), ⟨X2, X ++ Y2, h2, ⟨X, Y2, h1, h3, fun b hb hm => h5 b hb (List.mem_append_right _ hm), rfl⟩, fun b hb hm => ?_, rfl⟩, fun b => by simp only [List.mem_append]; exact or_left_comm⟩
  rcases List.mem_append.1 hm with hm | hm
  ·exact h5 b hm (List.mem_append_left _ hb)
  ·exact h4 b hb hm
 | trans _ _ ih1 ih2 =>
  intro Z h
  obtain ⟨Z1, h1, h2⟩ := ih1 h
  obtain ⟨Z2, h3, h4⟩ := ih2 h1
  exact ⟨Z2, h3, fun b => (h4 b).trans (h2 b)⟩
theorem alls_new (hl : ∀ A ∈ l, Ft B A) (h : alls l w Z) (hb : Below w.heap.size w w') (hC : C w' X) (hX : ∀ b ∈ X, w.heap.size ≤ b) : alls (C :: l) w' (X ++ Z) := by
 have hF := alls_ft hl
 exact ⟨X, Z, hC, hF.on h hb, fun b hb' hm => by have := hX b hb'; have := (hF.lt h b hm).2; omega, rfl⟩
end
section
variable {B : Nat} {A A' A'' C C' T T' T'' : Th} {l pre post : List Th} {w w' w'' : World} {X Z : List Nat} {P : Program} {f : Nat} {args : Array Value} {r : Value} {Q : Ending → World → Prop}
def Ln (T A T' A' : Th) : Prop := ∀ w Z, T w Z → ∃ X, A w X ∧ (∀ b ∈ X, b ∈ Z) ∧ ∀ w', Nx A' X w w' → Nx T' Z w w'
theorem Ln.trans (h : Ln T A T' A') (h' : Ln A C A' C') : Ln T C T' C' := fun w Z hT => by
 obtain ⟨X, h1, h2, h3⟩ := h w Z hT
 obtain ⟨Y, h4, h5, h6⟩ := h' w X h1
 exact ⟨Y, h4, fun b hb => h2 b (h5 b hb), fun w' hN => h3 w' (h6 w' hN)⟩
theorem Ln.ct (h : Ln T A T' A') (hc : Ct_LibY P f args A A' r) : Ct_LibY P f args T T' r := fun w Z hT => by
 obtain ⟨X, h1, _, h3⟩ := h w Z hT
 exact (hc w X h1).mono fun _ w' ⟨h4, h5⟩ => ⟨h4, h3 w' h5⟩
theorem Ln.get (h : Ln T A T' A') (hT : T w Z) : ∃ X, A w X ∧ ∀ b ∈ X, b ∈ Z := by
 obtain ⟨X, h1, h2, _⟩ := h w Z hT
 exact ⟨X, h1, h2⟩
theorem ln_left (hA : Ft B A) (hC : Ft B C) : Ln (sbs A C) A (sbs A' C) A' := fun w Z hT => by
 obtain ⟨X, Y, h1, h2, h3, rfl⟩ := hT
 exact ⟨X, h1, fun b hb => List.mem_append_left _ hb, fun w' hN => hN.left hA hC h1 h2 h3⟩
theorem ln_right (hA : Ft B A) (hC : Ft B C) : Ln (sbs A C) C (sbs A C') C' := fun w Z hT => by
 obtain ⟨X, Y, h1, h2, h3, rfl⟩ := hT
 exact ⟨Y, h2, fun b hb => List.mem_append_right _ hb, fun w' hN => hN.right hA hC h1 h2 h3⟩
theorem ln_at (hA : Ft B A) (hpost : ∀ C ∈ post, Ft B C) : ∀ {pre : List Th}, (∀ C ∈ pre, Ft B C) → Ln (alls (pre ++ A :: post)) A (alls (pre ++ A' :: post)) A'
 | [], _ => ln_left hA (alls_ft hpost)
 | D :: pre, hp => by
  have hp' : ∀ C ∈ pre, Ft B C := fun C hC' => hp C (List.mem_cons_of_mem _ hC')
  refine Ln.trans (ln_right (hp _ (List.mem_cons_self ..)) (alls_ft fun E hE => ?_)) (ln_at hA hpost hp')
  rcases List.mem_append.1 hE with hE | hE
  ·exact hp' E hE
  ·rcases List.mem_cons.1 hE with rfl | hE
   ·exact hA
   ·exact hpost E hE
theorem Ln.cond {p p' : Prop} (h : p → Ln T A T' A') (hp : p → p') : Ln (fun w Z => p ∧ T w Z) A (fun w Z => p' ∧ T' w Z) A' := fun w Z hT => by
 obtain ⟨X, h1, h2, h3⟩ := h hT.1 w Z hT.2
 refine ⟨X, h1, h2, fun w' hN => ?_⟩
 obtain ⟨Z', h4, h5, h6⟩ := h3 w' hN
 exact ⟨Z', ⟨hp hT.1, h4⟩, h5, h6⟩
theorem Nx.bind (h : Nx A X w w') (h' : ∀ X', A w' X' → (∀ b ∈ X', b ∈ X ∨ w.heap.size ≤ b) → Nx A' X' w' w'') : Nx A' X w w'' := by
 obtain ⟨X1, h1, h2, h3⟩ := h
 exact Nx.trans ⟨h1, h2, h3⟩ (h' X1 h1 h3)
theorem Nx.imp (h : Nx A X w w') (hi : ∀ X', A w' X' → A' w' X') : Nx A' X w w' := by
 obtain ⟨X1, h1, h2, h3⟩ := h
 exact ⟨X1, hi X1 h1, h2, h3⟩
theorem Nx.more (hA : Ft B A) (h : Nx A X w w') (hb : Below w'.heap.size w' w'') : Nx A X w w'' := h.bind fun _ h1 _ => Nx.refl hA h1 hb
theorem Nx.before (h : Nx A X w' w'') (hb : Below w.heap.size w w') : Nx A X w w'' := by
 obtain ⟨X1, h1, h2, h3⟩ := h
 refine ⟨X1, h1, (kp_of_below hb X).trans h2 (fun _ h _ => h), fun b hb' => (h3 b hb').imp_right fun h => Nat.le_trans hb.size h⟩
end
section
section
variable {α : Type} {R : Value → Option (DataW Unit × List MemPlace)} {dat : α → DataW Unit} {z : α} {w0 w w' : World} {b n : Nat} {l : List (Int × α)} {X : List Nat} {D : DataW Unit}
def Mg (R : Value → Option (DataW Unit × List MemPlace)) (dat : α → DataW Unit) (z : α) (w0 : World) (b : Nat) (l : List (Int × α)) : Th := fun w X =>
 RowKit.Below w0.heap.size w0 w ∧ w0.heap.size ≤ b ∧ (∃ D, w.ownsMap Tryz.prog 3 R b l.length D ∧ Rp dat z D l) ∧ (keys l).Nodup ∧ X = [b]
theorem mown_keep {X : List Nat} (h : w.ownsMap Tryz.prog 3 R b n D) (hk : Kp X w w') (hX : b ∉ X) : w'.ownsMap Tryz.prog 3 R b n D := by
 obtain ⟨es, clock, hb, F, hs, hD⟩ := h
 exact ⟨es, clock, hk.var hb hX, F, hs, hD⟩
theorem mg_ft (R : Value → Option (DataW Unit × List MemPlace)) (dat : α → DataW Unit) (z : α) (w0 : World) (b : Nat) (l : List (Int × α)) : Ft w0.heap.size (Mg R dat z w0 b l) := by
 refine ⟨fun {w X} h g hg => ?_, fun {w w' X Y} h hk hY hX => ?_⟩
 ·obtain ⟨_, h1, ⟨D, h2, _⟩, _, rfl⟩ := h
  obtain rfl := List.mem_singleton.1 hg
  exact ⟨h1, h2.lt⟩
 ·obtain ⟨h0, h1, ⟨D, h2, h3⟩, h4, rfl⟩ := h
  exact ⟨h0.trans (hk.below h0.size hY), h1, ⟨D, mown_keep h2 hk (hX b (by simp)), h3⟩, h4, rfl⟩
theorem mg_new (hb : RowKit.Below w0.heap.size w0 w) : Mg R dat z w0 w.heap.size [] (w.alloc (.map #[] 0)) [w.heap.size] :=
 ⟨Below.on hb ((Below.refl _ _).alloc (Nat.le_refl _) _), hb.size, ⟨_, World.ownsMap_made w Tryz.prog 3 R, rp_empty dat z⟩, by simp [keys], rfl⟩
end
def mzR : Value → Option (DataW Unit × List MemPlace)
 | .int .i64 n => some (.lit (.int .i64 n), [])
 | _ => none
def mzd (n : Int) : DataW Unit := .lit (.int .i64 n)
def mtI : List Value → Option (List Int)
 | [] => some []
 | .int .i64 n :: l => (mtI l).map (n :: ·)
 | _ => none
def mtR : Value → Option (DataW Unit × List MemPlace)
 | .agg cs => (mtI cs.toList).map fun l => (.agg (l.map mzd), [])
 | _ => none
def mtd (l : List Int) : DataW Unit := .agg (l.map mzd)
abbrev Mzi (w0 : World) (b : Nat) (l : List (Int × Int)) : Th := Mg mzR mzd 0 w0 b l
abbrev Mt (z : List Int) (w0 : World) (b : Nat) (l : List (Int × List Int)) : Th := Mg mtR mtd z w0 b l
end
section
theorem len16 {α : Type} {l : List α} (h : l.length = 16) : ∃ x0 x1 x2 x3 x4 x5 x6 x7 x8 x9 x10 x11 x12 x13 x14 x15, l = [x0, x1, x2, x3, x4, x5, x6, x7, x8, x9, x10, x11, x12, x13, x14, x15] := by
 match l, h with
 | [x0, x1, x2, x3, x4, x5, x6, x7, x8, x9, x10, x11, x12, x13, x14, x15], _ => exact ⟨_, _, _, _, _, _, _, _, _, _, _, _, _, _, _, _, rfl⟩
theorem nodup_at {l : List Addr} (h : l.Nodup) {i j : Nat} {a : Addr} (hi : l[i]? = some a) (hj : l[j]? = some a) : i = j := by
 induction l generalizing i j with
 | nil => simp at hi
 | cons x l ih =>
  rw [List.nodup_cons] at h
  cases i with
  | zero =>
   cases j with
   | zero => rfl
   | succ j =>
    simp only [List.getElem?_cons_zero, List.getElem?_cons_succ, Option.some.injEq] at hi hj
    subst hi
    exact absurd (List.mem_of_getElem? hj) h.1
  | succ i =>
   cases j with
   | zero =>
    simp only [List.getElem?_cons_zero, List.getElem?_cons_succ, Option.some.injEq] at hi hj
    subst hj
    exact absurd (List.mem_of_getElem? hi) h.1
   | succ j =>
    simp only [List.getElem?_cons_succ] at hi hj
    rw [ih h.2 hi hj]
theorem ret_int' {k : IntKind} {a b : Int} (h : a = b) : Ending.returned (.int k a) = .returned (.int k b) := by rw [h]
end
section
structure E2 (w : World) (es : List Addr) : Prop where
 arg : w.cell? ⟨2, 0, none⟩ = some (erv es 1)
 obj : w.cell? ⟨6, 0, none⟩ = some (erv es 5)
theorem E2.kp {X : List Nat} {w w' : World} {es : List Addr} (h : E2 w es) (hk : Kp X w w') (h1 : 2 ∉ X) (h2 : 6 ∉ X) : E2 w' es := ⟨hk.cell h.arg h1, hk.cell h.obj h2⟩
theorem E2.below {w w' : World} {es : List Addr} (h : E2 w es) (hb : Below w.heap.size w w') : E2 w' es := h.kp (kp_of_below hb []) (by simp) (by simp)
section
variable {H : Type} {P : Program} (w : World) {ops : Array Oper} {rest : List Oper} {o : Oper} {a : Act} {Q : Exit → Act → World → Prop}
theorem wpList_insert_in (hg : o.guard = none) (m x v : Operand) (t : TypeId) (hop : o.op = Op.insert t m x v)
  (k e : TypeId) (K : Maps.Keyed P k) (ht : P.underlying t = some (.map k e)) (R : Value → Option (DataW H × List MemPlace)) (b n : Nat) (D : DataW H)
  (hm : a.eval m = .map (some b)) (hown : w.ownsMap P k R b n D) (hn : n < maxLen) (key val : Value) (kl : Lit) (hx : a.eval x = key) (hv : a.eval v = val) (hkey : keyOf P k key = some kl)
  (d : DataW H) (ps : List MemPlace) (hval : R val = some (d, ps))
  (hK : ∀ w', w'.ownsMap P k R b (n + 1) (D.put kl d) → w.mapTurned w' b → wpList P ops Q rest (a.put o.dst undef) w') :
  wpList P ops Q (o :: rest) a w := by
 refine wpList_plain hg fun K' hK' => ?_
 obtain ⟨w', hrun, r1, r2⟩ := hown.store K ht hn hkey hval
 unfold Oper.wp
 simp [execOp, hop, hm, hx, hv, hrun, Result.andThen]
 exact hK' _ _ (hK w' r1 r2)
theorem wpList_lookup_own_IdsB (hg : o.guard = none) (m x : Operand) (t : TypeId) (hop : o.op = Op.lookup t m x false)
  (k e : TypeId) (K : Maps.Keyed P k) (ht : P.underlying t = some (.map k e)) (R : Value → Option (DataW H × List MemPlace)) {z : Value} (hz : (zeroValue e).run P w = .ok z w) (zd : DataW H) (zp : List MemPlace) (hzd : R z = some (zd, zp)) (b n : Nat) (D : DataW H)
  (hm : a.eval m = .map (some b)) (hown : w.ownsMap P k R b n D) (key : Value) (kl : Lit) (hx : a.eval x = key) (hkey : keyOf P k key = some kl)
  (hK : ∀ v ps, R v = some (D.atKey kl zd, ps) → wpList P ops Q rest (a.put o.dst v) w) :
  wpList P ops Q (o :: rest) a w := by
 refine wpList_plain hg fun K' hK' => ?_
 obtain ⟨v, ps, hrun, hv⟩ := hown.lookup K ht hz hzd hkey
 unfold Oper.wp
 simp [execOp, hop, hm, hx, hrun, Result.andThen]
 exact hK' _ _ (hK v ps hv)
end
structure Tb (base : Nat) (w : World) (p b : Nat) (s : Int → Int × Int) : Prop where
 lop : base ≤ p
 lob : base ≤ b
 ne : p ≠ b
 var : w.heap[p]? = some (.cells #[.map (some b)] 160 (0, 0))
 own : ∃ D, w.ownsMap Tryz.prog 3 objR b 255 D ∧ Rep D s
 gd : Gd_IdsA s
theorem own_kp_IdsB {X : List Nat} {w w' : World} {b n : Nat} {D : DataW Unit} (h : w.ownsMap Tryz.prog 3 objR b n D) (hk : Kp X w w') (hX : b ∉ X) : w'.ownsMap Tryz.prog 3 objR b n D := by
 obtain ⟨es, clock, hb, F, hs, hD⟩ := h
 exact ⟨es, clock, hk.var hb hX, F, hs, hD⟩
theorem Tb.kept {base : Nat} {w w' : World} {p b : Nat} {s : Int → Int × Int} {X : List Nat} (h : Tb base w p b s) (hk : Kp X w w') (hp : p ∉ X) (hb : b ∉ X) : Tb base w' p b s := by
 obtain ⟨D, h1, h2⟩ := h.own
 exact ⟨h.lop, h.lob, h.ne, hk.var h.var hp, ⟨D, own_kp_IdsB h1 hk hb, h2⟩, h.gd⟩
theorem Tb.on {base : Nat} {w w' : World} {p b : Nat} {s : Int → Int × Int} (h : Tb base w p b s) (hb : Below w.heap.size w w') : Tb base w' p b s := h.kept (kp_of_below hb []) (by simp) (by simp)
theorem Tb.lt {base : Nat} {w : World} {p b : Nat} {s : Int → Int × Int} (h : Tb base w p b s) : p < w.heap.size ∧ b < w.heap.size := by
 obtain ⟨D, h1, _⟩ := h.own
 exact ⟨(Array.getElem?_eq_some_iff.1 h.var).1, h1.lt⟩
theorem Tb.turned {base : Nat} {w w' : World} {p b n : Nat} {s s' : Int → Int × Int} (h : Tb base w p b s) (ht : w.mapTurned w' b) {D : DataW Unit} (ho : w'.ownsMap Tryz.prog 3 objR b n D) (hR : Rep D s') (hg : Gd_IdsA s') : Tb base w' p b s' :=
 ⟨h.lop, h.lob, h.ne, (kp_turned ht).var h.var (by simpa using h.ne), ⟨D, tight ho Tryz.underlying3 hR hg, hR⟩, hg⟩
theorem kInt_IdsB (id : Int) (h : -9223372036854775808 ≤ id ∧ id ≤ 9223372036854775807) : keyOf Tryz.prog 3 (.int .i64 id) = some (.int .i64 id) :=
 Maps.keyOf_int_mk Tryz.underlying3 (by simp [Lit.wf, IntKind.min, IntKind.max, IntKind.signed, IntKind.bits]; omega)
theorem zObj_IdsB (w : World) : (zeroValue 157).run Tryz.prog w = .ok (obv (0, 0)) w := by kernel_rfl
theorem fld0 (f v : Int) (w : World) : (Instr.field 157 (.agg #[.int .i64 f, .int .i64 v]) 0).run Tryz.prog w = .ok (.int .i64 f) w := by kernel_rfl
theorem fld1 (f v : Int) (w : World) : (Instr.field 157 (.agg #[.int .i64 f, .int .i64 v]) 1).run Tryz.prog w = .ok (.int .i64 v) w := by kernel_rfl
theorem new_any_IdsB (w : World) : Calls Tryz.prog 39 #[] w fun e w' => e = .returned (.pointer (some ⟨w.heap.size + 1, 0, none⟩)) ∧ Below w.heap.size w w' ∧ ∀ base, base ≤ w.heap.size → Tb base w' (w.heap.size + 1) w.heap.size s0 := by
 have H0 := hid (World.ownsMap_made w Tryz.prog 3 objR)
 have hmm := @run_makeMap Tryz.prog
 go_enter Tryz.func39, Tryz.ntmps39
 go_wp2_with (refine wpList_insert_in _ rfl (.tmp 1) (.const (.int .i64 1)) (.tmp 2) 158 rfl 3 157 (Maps.int_keyed Tryz.underlying3) Tryz.underlying158 objR w.heap.size 0 _ rfl H0.out (by decide) _ _ _ rfl rfl (kInt_IdsB 1 (by decide)) _ _ (objR_mk (1, 1)) ?_; intro w1 o1 t1)
 have hsz : w1.heap.size = w.heap.size + 1 := by
  obtain ⟨_, _, _, _, _, rfl⟩ := t1
  simp [ChangeMaps.setBlock]
 have hb : Below w.heap.size w w1 := ((Below.refl w.heap.size w).alloc (Nat.le_refl _) _).grown t1.grown (by simp) (fun k hk => by cases hk; exact Nat.le_refl _)
 go_ret
 rw [hsz]
 refine ⟨rfl, hb.alloc hb.size _, fun base hbase => ⟨by omega, hbase, by omega, ?_, ⟨_, (tight o1 Tryz.underlying3 (rep_empty.put ⟨[], rfl⟩ 1 (1, 1) (by decide)) gd0).alloc _, rep_empty.put ⟨[], rfl⟩ 1 (1, 1) (by decide)⟩, gd0⟩⟩
 rw [← hsz]
 exact heap_alloc_new w1 _
theorem has_any (base : Nat) (w : World) (p b : Nat) (s : Int → Int × Int) (hT : Tb base w p b s) (id : Int) (hi : -9223372036854775808 ≤ id ∧ id ≤ 9223372036854775807) :
  Calls Tryz.prog 92 #[.pointer (some ⟨p, 0, none⟩), .int .i64 id] w fun e w' => e = .returned (.bool (!decide ((s id).1 = 0))) ∧ Below w.heap.size w w' := by
 obtain ⟨D, ho, hR⟩ := hT.own
 have HO := hid ho
 have HA := hid (hR id)
 have HZ := hid (zObj_IdsB w)
 have HK := hid (kInt_IdsB id hi)
 have c0 : w.cell? ⟨p, 0, none⟩ = some (.map (some b)) := by rw [Lib.cell_of_heap hT.var]; rfl
 clear hT ho hR
 go_enter Tryz.func92, Tryz.ntmps92
 go_wp2_with (at_lookup; refine wpList_lookup_own_ok _ rfl (.tmp 11) (.tmp 12) 158 rfl 3 157 (Maps.int_keyed Tryz.underlying3) Tryz.underlying158 objR HZ.out _ _ (objR_mk (0, 0)) b 255 D rfl HO.out _ _ rfl HK.out ?_; intro v ps hv; rw [HA.out.2] at hv; obtain rfl := objR_inv hv; rw [HA.out.1, obv, show decide ((s id).1 ≠ 0) = !decide ((s id).1 = 0) from by simp]; clear hv)
 go_ret
 exact ⟨rfl, by refine (Below.refl _ _).alloc (Nat.le_refl _) _⟩
theorem face_any (base : Nat) (w : World) (p b : Nat) (s : Int → Int × Int) (hT : Tb base w p b s) (id : Int) (hi : -9223372036854775808 ≤ id ∧ id ≤ 9223372036854775807) :
  Calls Tryz.prog 33 #[.pointer (some ⟨p, 0, none⟩), .int .i64 id] w fun e w' => e = .returned (.int .i64 (s id).1) ∧ w' = w := by
 obtain ⟨D, ho, hR⟩ := hT.own
 have HO := hid ho
 have HA := hid (hR id)
 have HZ := hid (zObj_IdsB w)
 have HK := hid (kInt_IdsB id hi)
 have c0 : w.cell? ⟨p, 0, none⟩ = some (.map (some b)) := by rw [Lib.cell_of_heap hT.var]; rfl
 clear hT ho hR
 have hf := fld0
 go_enter Tryz.func33, Tryz.ntmps33
 go_wp2_with (at_lookup; refine wpList_lookup_own_IdsB _ rfl (.tmp 8) (.tmp 9) 158 rfl 3 157 (Maps.int_keyed Tryz.underlying3) Tryz.underlying158 objR HZ.out _ _ (objR_mk (0, 0)) b 255 D rfl HO.out _ _ rfl HK.out ?_; intro v ps hv; rw [HA.out.2] at hv; obtain rfl := objR_inv hv; rw [obv]; clear hv)
 go_ret
 exact ⟨rfl, rfl⟩
theorem version_any (base : Nat) (w : World) (p b : Nat) (s : Int → Int × Int) (hT : Tb base w p b s) (id : Int) (hi : -9223372036854775808 ≤ id ∧ id ≤ 9223372036854775807) :
  Calls Tryz.prog 75 #[.pointer (some ⟨p, 0, none⟩), .int .i64 id] w fun e w' => e = .returned (.int .i64 (s id).2) ∧ w' = w := by
 obtain ⟨D, ho, hR⟩ := hT.own
 have HO := hid ho
 have HA := hid (hR id)
 have HZ := hid (zObj_IdsB w)
 have HK := hid (kInt_IdsB id hi)
 have c0 : w.cell? ⟨p, 0, none⟩ = some (.map (some b)) := by rw [Lib.cell_of_heap hT.var]; rfl
 clear hT ho hR
 have hf := fld1
 go_enter Tryz.func75, Tryz.ntmps75
 go_wp2_with (at_lookup; refine wpList_lookup_own_IdsB _ rfl (.tmp 8) (.tmp 9) 158 rfl 3 157 (Maps.int_keyed Tryz.underlying3) Tryz.underlying158 objR HZ.out _ _ (objR_mk (0, 0)) b 255 D rfl HO.out _ _ rfl HK.out ?_; intro v ps hv; rw [HA.out.2] at hv; obtain rfl := objR_inv hv; rw [obv]; clear hv)
 go_ret
 exact ⟨rfl, rfl⟩
def Added (base : Nat) (w : World) (es : List Addr) (p b : Nat) (s : Int → Int × Int) (id f v : Int) (e : Ending) (w' : World) : Prop :=
 e = .returned (erv es (addE_IdsA s id f v)) ∧ Tb base w' p b (addS s id f v) ∧ Kp [b] w w'
theorem added_no {base : Nat} {w w' : World} {es : List Addr} {p b : Nat} {s : Int → Int × Int} {id f v : Int} (hT : Tb base w p b s) (hb : Below w.heap.size w w') (k : Nat) (hk : addE_IdsA s id f v = k + 1) : Added base w es p b s id f v (.returned (erv es (k + 1))) w' := by
 refine ⟨by rw [hk], ?_, kp_of_below hb _⟩
 rw [addS, hk, if_neg (by omega)]
 exact hT.on hb
theorem add_arg (base : Nat) (w : World) (es : List Addr) (hE : E2 w es) (p b : Nat) (s : Int → Int × Int) (hT : Tb base w p b s) (id f v : Int) (hk : f < 1 ∨ 17 < f ∨ v < 1) :
  Calls Tryz.prog 78 #[.pointer (some ⟨p, 0, none⟩), .int .i64 id, .int .i64 f, .int .i64 v] w fun e w' => Added base w es p b s id f v e w' := by
 have hc := hE.arg
 have hl := World.block_lt_of_cell? w _ hc
 have HT := hid (added_no (id := id) (f := f) (v := v) (es := es) hT (Below.refl _ _) 0 (by rw [addE_IdsA, if_pos hk]))
 clear hT hE
 by_cases h1 : f < 1
 ·have e1 : decide (f < 1) = true := decide_eq_true h1
  go_enter Tryz.func78, Tryz.ntmps78
  go_wp2
  go_ret
  exact HT.out
 ·have e1 : decide (f < 1) = false := decide_eq_false h1
  by_cases h2 : 17 < f
  ·have e2 : decide (17 < f) = true := decide_eq_true h2
   go_enter Tryz.func78, Tryz.ntmps78
   go_wp2
   go_ret
   exact HT.out
  ·have e2 : decide (17 < f) = false := decide_eq_false h2
   have e3 : decide (v < 1) = true := decide_eq_true (by omega)
   go_enter Tryz.func78, Tryz.ntmps78
   go_wp2
   go_ret
   exact HT.out
theorem add_obj (base : Nat) (w : World) (es : List Addr) (hE : E2 w es) (p b : Nat) (s : Int → Int × Int) (hT : Tb base w p b s) (id f v : Int) (hi : -9223372036854775808 ≤ id ∧ id ≤ 9223372036854775807) (ha : ¬ (f < 1 ∨ 17 < f ∨ v < 1)) (hk : id ≤ 1 ∨ 255 < id ∨ (s id).1 ≠ 0) :
  Calls Tryz.prog 78 #[.pointer (some ⟨p, 0, none⟩), .int .i64 id, .int .i64 f, .int .i64 v] w fun e w' => Added base w es p b s id f v e w' := by
 have hc := hE.obj
 have hl := World.block_lt_of_cell? w _ hc
 have HE := hid (fun u hu => (hE.below (w' := u) hu).obj)
 have HL : Hid (∀ u : World, Below w.heap.size w u → 6 < u.heap.size) := fun u hu => World.block_lt_of_cell? u _ (hE.below hu).obj
 have HT := hid (fun u hb => added_no (w' := u) (id := id) (f := f) (v := v) (es := es) hT hb 4 (by rw [addE_IdsA, if_neg ha, if_pos hk]))
 have HH := hid (has_any base w p b s hT id hi)
 have e1 : decide (f < 1) = false := decide_eq_false (by omega)
 have e2 : decide (17 < f) = false := decide_eq_false (by omega)
 have e3 : decide (v < 1) = false := decide_eq_false (by omega)
 clear hT hE
 by_cases h1 : id ≤ 1
 ·have e4 : decide (id ≤ 1) = true := decide_eq_true h1
  go_enter Tryz.func78, Tryz.ntmps78
  go_wp2
  go_ret
  exact HT.out _ (Below.refl _ _)
 ·have e4 : decide (id ≤ 1) = false := decide_eq_false h1
  by_cases h2 : 255 < id
  ·have e5 : decide (255 < id) = true := decide_eq_true h2
   go_enter Tryz.func78, Tryz.ntmps78
   go_wp2
   go_ret
   exact HT.out _ (Below.refl _ _)
  ·have e5 : decide (255 < id) = false := decide_eq_false h2
   rw [decide_eq_false (show ¬ (s id).1 = 0 by omega), Bool.not_false] at HH
   go_enter Tryz.func78, Tryz.ntmps78
   go_wp2_with fail
   refine HH.out.mono ?_
   rintro e w1 ⟨rfl, hb⟩
   have c1 := HE.out _ hb
   have l1 := HL.out _ hb
   go_wp2
   go_ret
   exact HT.out _ hb
theorem add_ok (base : Nat) (w : World) (es : List Addr) (p b : Nat) (s : Int → Int × Int) (hT : Tb base w p b s) (id f v : Int) (hi : -9223372036854775808 ≤ id ∧ id ≤ 9223372036854775807) (ha : ¬ (f < 1 ∨ 17 < f ∨ v < 1)) (hk : ¬ (id ≤ 1 ∨ 255 < id ∨ (s id).1 ≠ 0)) :
  Calls Tryz.prog 78 #[.pointer (some ⟨p, 0, none⟩), .int .i64 id, .int .i64 f, .int .i64 v] w fun e w' => Added base w es p b s id f v e w' := by
 have hs : addE_IdsA s id f v = 0 := by rw [addE_IdsA, if_neg ha, if_neg hk]
 have HT : Hid (∀ u, Below w.heap.size w u → ∃ D, u.ownsMap Tryz.prog 3 objR b 255 D ∧ u.cell? ⟨p, 0, none⟩ = some (.map (some b)) ∧ p < u.heap.size ∧ ∀ u', u'.ownsMap Tryz.prog 3 objR b (255 + 1) (D.put (.int .i64 id) (dat (f, v))) → u.mapTurned u' b → Added base w es p b s id f v (.returned .nilIface) u') := fun u hu => by
  have h := hT.on hu
  obtain ⟨D, ho, hR⟩ := h.own
  refine ⟨D, ho, by rw [Lib.cell_of_heap h.var]; rfl, h.lt.1, fun u' ho' ht => ⟨by rw [hs]; rfl, ?_, (kp_of_below hu [b]).trans (kp_turned ht) (fun k hk _ => hk)⟩⟩
  rw [addS, hs, if_pos rfl]
  exact h.turned ht ho' (hR.put ho.isMap id (f, v) (by simp only; omega)) (h.gd.upd (by omega) (by simp only; omega))
 have HH := hid (has_any base w p b s hT id hi)
 have e1 : decide (f < 1) = false := decide_eq_false (by omega)
 have e2 : decide (17 < f) = false := decide_eq_false (by omega)
 have e3 : decide (v < 1) = false := decide_eq_false (by omega)
 have e4 : decide (id ≤ 1) = false := decide_eq_false (by omega)
 have e5 : decide (255 < id) = false := decide_eq_false (by omega)
 have HK := hid (kInt_IdsB id hi)
 rw [decide_eq_true (show (s id).1 = 0 by omega), Bool.not_true] at HH
 clear hT
 go_enter Tryz.func78, Tryz.ntmps78
 go_wp2_with fail
 refine HH.out.mono ?_
 rintro e w1 ⟨rfl, hb⟩
 obtain ⟨D, hO, c1, l1, hN⟩ := HT.out _ hb
 have HO := hid hO
 have HN := hid hN
 clear hO hN HT HH
 go_wp2_with (refine wpList_mapUpdate_in _ rfl (.tmp 35) (.tmp 36) (.tmp 39) 158 rfl 3 157 (Maps.int_keyed Tryz.underlying3) Tryz.underlying158 objR b 255 D rfl HO.out (by decide) _ _ _ rfl rfl HK.out _ _ (objR_mk (f, v)) ?_; intro w2 o2 t2; have HA := hid (HN.out _ o2 t2); clear o2 t2)
 go_ret
 exact HA.out
theorem add_any (base : Nat) (w : World) (es : List Addr) (hE : E2 w es) (p b : Nat) (s : Int → Int × Int) (hT : Tb base w p b s) (id f v : Int) (hi : -9223372036854775808 ≤ id ∧ id ≤ 9223372036854775807) :
  Calls Tryz.prog 78 #[.pointer (some ⟨p, 0, none⟩), .int .i64 id, .int .i64 f, .int .i64 v] w fun e w' => Added base w es p b s id f v e w' := by
 by_cases ha : f < 1 ∨ 17 < f ∨ v < 1
 ·exact add_arg base w es hE p b s hT id f v ha
 ·by_cases hk : id ≤ 1 ∨ 255 < id ∨ (s id).1 ≠ 0
  ·exact add_obj base w es hE p b s hT id f v hi ha hk
  ·exact add_ok base w es p b s hT id f v hi ha hk
end
section
theorem Errs.at_ {w : World} {es : List Addr} (h : Errs w gerrs es) (i g : Nat) (hg : gerrs[i]? = some g) : w.cell? ⟨g, 0, none⟩ = some (erv es (i + 1)) := by
 have hl : i < es.length := by
  rw [h.len]
  exact (List.getElem?_eq_some_iff.1 hg).1
 have := (h.each i g _ hg (List.getElem?_eq_getElem hl)).1
 rw [this, erv, List.getD, List.getElem?_eq_getElem hl]
 rfl
end
end Go.Proofs.YtpbgbpcdohdecaaGreatDoor
