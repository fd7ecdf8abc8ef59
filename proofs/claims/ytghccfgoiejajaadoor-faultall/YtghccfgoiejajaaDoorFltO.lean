/- A listed error by its address, for the laws' walks. -/
import Derived.Test.YtghccfgoiejajaaDoorFltN
import Derived.Deep.RegionHeld
import Derived.Deep.DeepCutAuto
namespace Go.Proofs.YtghccfgoiejajaaDoor
open Go Go.RowKit

theorem words_at {k : Nat} (h1 : 1 ≤ k) (h2 : k ≤ 16) : wordsX[k - 1]? = some (wordsOf k).data.toList := by
  have hk : k = 1 ∨ k = 2 ∨ k = 3 ∨ k = 4 ∨ k = 5 ∨ k = 6 ∨ k = 7 ∨ k = 8 ∨ k = 9 ∨ k = 10 ∨ k = 11 ∨ k = 12 ∨ k = 13 ∨ k = 14 ∨ k = 15 ∨ k = 16 := by omega
  rcases hk with rfl | rfl | rfl | rfl | rfl | rfl | rfl | rfl | rfl | rfl | rfl | rfl | rfl | rfl | rfl | rfl
  all_goals rfl

theorem words_short {k : Nat} (h2 : k ≤ 16) : (wordsOf k).data.toList.length ≤ 8 := by
  have hk : k = 0 ∨ k = 1 ∨ k = 2 ∨ k = 3 ∨ k = 4 ∨ k = 5 ∨ k = 6 ∨ k = 7 ∨ k = 8 ∨ k = 9 ∨ k = 10 ∨ k = 11 ∨ k = 12 ∨ k = 13 ∨ k = 14 ∨ k = 15 ∨ k = 16 := by omega
  rcases hk with rfl | rfl | rfl | rfl | rfl | rfl | rfl | rfl | rfl | rfl | rfl | rfl | rfl | rfl | rfl | rfl | rfl
  all_goals decide

/-- The k-th error: its address x, its words s; each contract at it. -/
structure Lst (es : List Addr) (k : Nat) (x : Addr) (s : ByteArray) : Prop where
  pos : 1 ≤ k
  le : k ≤ 16
  val : erv es k = eS x
  text : s = wordsOf k
  cell : ∀ w, All w es → w.cell? x = some (.string s)

theorem lst_of {w : World} {es : List Addr} (h : All w es) {k : Nat} (h1 : 1 ≤ k) (h2 : k ≤ 16) : ∃ x s, Lst es k x s := by
  obtain ⟨x, hx, hj, _⟩ := erv_at h.errs h1 h2
  refine ⟨x, wordsOf k, h1, h2, hx, rfl, fun w' h' => ?_⟩
  have hs := h'.says
  rw [words_x] at hs
  exact hs (k - 1) x _ hj (words_at h1 h2)

section
variable {es : List Addr} {k : Nat} {x : Addr} {s : ByteArray}

theorem Lst.er (h : Lst es k x s) {w : World} (ha : All w es) : Er w es (eS x) k none s.data.toList := by
  rw [← h.val, h.text]
  exact Er.listed ha h.pos h.le

theorem Lst.new (h : Lst es k x s) {w : World} (ha : All w es) (o c : Int) :
    Calls Tryd.prog 11 #[.int .i64 o, .int .i64 c, eS x] w fun e w' => ∃ b, e = .returned (eF b) ∧ Er w' es (eF b) k (some b) s.data.toList ∧ Fa w' b o c s (eS x) ∧ Below w.heap.size w w' := by
  rw [← h.val, h.text]
  exact fNew w es ha o c k h.pos h.le

theorem Lst.fis (h : Lst es k x s) {w : World} {v : Value} {F : Option Nat} {t : List UInt8} (he : Er w es v k F t) (ha : All w es) :
    Calls Tryd.prog 19 #[v, eS x] w fun e w' => e = .returned (.bool true) ∧ Below w.heap.size w w' := by
  rw [← h.val]
  have := he.fis ha k h.pos h.le
  rwa [show decide (k = k) = true by simp] at this

theorem Lst.eis (h : Lst es k x s) {w : World} {v : Value} {F : Option Nat} {t : List UInt8} (he : Er w es v k F t) (ha : All w es) :
    Calls Tryd.prog 20 #[v, eS x] w fun e w' => e = .returned (.bool true) ∧ w' = w := by
  rw [← h.val]
  have := he.eis ha k h.pos h.le
  rwa [show decide (k = k) = true by simp] at this

theorem Lst.kind (h : Lst es k x s) {w : World} {v : Value} {F : Option Nat} {t : List UInt8} (he : Er w es v k F t) (ha : All w es) :
    Calls Tryd.prog 18 #[v] w fun e w' => e = .returned (.int .i64 (k : Nat)) ∧ Below w.heap.size w w' := by
  have := he.kind ha
  rwa [show kindOf k = k by unfold kindOf; have := h.pos; split <;> omega] at this

theorem Lst.error (h : Lst es k x s) {w : World} (ha : All w es) : Calls Tryd.prog 61 #[.pointer (some x)] w fun e w' => e = .returned (.string s) ∧ w' = w :=
  errorE w x s (h.cell w ha)
end

/-- Of, with the fault's cause an error of errors.New's make. -/
theorem Er.ofS {w : World} {es : List Addr} {v : Value} {k b : Nat} {t : List UInt8} (h : Er w es v k (some b) t) (ha : All w es) {o c : Int} {s : ByteArray} {x : Addr} (hf : Fa w b o c s (eS x)) :
    Calls Tryd.prog 14 #[v] w fun e w' => e = .returned (.tuple #[.agg #[.int .i64 o, .int .i64 c, .string s, eS x], .bool true]) ∧ Below w.heap.size w w' :=
  h.of ha hf (.inr ⟨_, _, rfl⟩)

/-- The error that a number names: 1 + Place(number, 16). -/
theorem named {w : World} {es : List Addr} (h : All w es) (a : Int) : ∃ (m : Nat) (x : Addr) (s : ByteArray), m < 16 ∧ Lst es (m + 1) x s ∧
    (∀ w, Calls Tryd.prog 12 #[.int .i64 a, .int .i64 16] w fun e w' => e = .returned (.int .i64 (m : Nat)) ∧ w' = w) ∧
    (∀ w, All w es → Calls Tryd.prog 9 #[.int .i64 (1 + (m : Int))] w fun e w' => e = .returned (eS x) ∧ Below w.heap.size w w') := by
  obtain ⟨m, hm, hm2⟩ : ∃ m : Nat, a % 16 = m ∧ m < 16 := ⟨(a % 16).toNat, by omega, by omega⟩
  obtain ⟨x, s, hl⟩ := lst_of h (k := m + 1) (by omega) (by omega)
  refine ⟨m, x, s, hm2, hl, fun w => ?_, fun w h => ?_⟩
  · rw [← hm]; exact place w a 16 (by decide) (by decide)
  · rw [show (1 + (m : Int)) = ((m + 1 : Nat) : Int) by omega, ← hl.val]
    exact error_at w es h.errs (m + 1) (by omega) (by omega)

/-- A fault's cells. -/
theorem Fa.c0 {w : World} {b : Nat} {o c : Int} {s : ByteArray} {v : Value} (h : Fa w b o c s v) : w.cell? ⟨b, 0, none⟩ = some (.int .i64 o) := by rw [World.cell?, show w.heap[b]? = _ from h]; rfl
theorem Fa.c1 {w : World} {b : Nat} {o c : Int} {s : ByteArray} {v : Value} (h : Fa w b o c s v) : w.cell? ⟨b, 1, none⟩ = some (.int .i64 c) := by rw [World.cell?, show w.heap[b]? = _ from h]; rfl
theorem Fa.c2 {w : World} {b : Nat} {o c : Int} {s : ByteArray} {v : Value} (h : Fa w b o c s v) : w.cell? ⟨b, 2, none⟩ = some (.string s) := by rw [World.cell?, show w.heap[b]? = _ from h]; rfl
theorem Fa.c3 {w : World} {b : Nat} {o c : Int} {s : ByteArray} {v : Value} (h : Fa w b o c s v) : w.cell? ⟨b, 3, none⟩ = some v := by rw [World.cell?, show w.heap[b]? = _ from h]; rfl
/-- A variable that holds a fault. -/
theorem Fa.var (w : World) (o c : Int) (s : ByteArray) (v : Value) : Fa (w.alloc (.cells #[.int .i64 o, .int .i64 c, .string s, v] 31)) w.heap.size o c s v := heap_new _ _
theorem bel_alloc (w : World) (o : Obj) : Below w.heap.size w (w.alloc o) := (Below.refl _ _).alloc (Nat.le_refl _) _
theorem Below.on {w w1 w2 : World} (h : Below w.heap.size w w1) (h2 : Below w1.heap.size w1 w2) : Below w.heap.size w w2 := h.trans (h2.mono h.size)

theorem wpAnyH_mono {P : Program} {md : Region.Mode} {ops : Array Oper} {Q : Exit → Act → World → Prop} {S S' : World → Prop} (h : ∀ x, S' x → S x) : ∀ {fuel : Nat} {listed : Array Bool} {a : Act} {w : World}, wpAnyH P md ops Q S' fuel listed a w → wpAnyH P md ops Q S fuel listed a w
  | 0, _, _, _, hh => hh
  | _ + 1, _, _, _, hh => ⟨hh.1, fun i hi => wpOp_mono (fun _ _ q => ⟨h _ q.1, wpAnyH_mono h q.2⟩) (hh.2 i hi)⟩
end Go.Proofs.YtghccfgoiejajaaDoor
