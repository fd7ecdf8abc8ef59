/- A loop over a method's value (for x := range s.down): the function that is called has its receiver bound ahead of yield. One law for the loop, over any program. -/
import Derived.Test.YtfedcpnnmkkpaaaDoorLibK
import Derived.RangeFuncRecord
import Derived.RangeFuncSeq
namespace Go.Proofs.YtfedcpnnmkkpaaaDoor
open Go Go.RowKit

/-- Blocks from B on are as they were; others may be new. -/
structure Abv (B : Nat) (w w' : World) : Prop where
  size : w.heap.size ≤ w'.heap.size
  block : ∀ k, B ≤ k → k < w.heap.size → w'.heap[k]? = w.heap[k]?
theorem Abv.refl (B : Nat) (w : World) : Abv B w w := ⟨Nat.le_refl _, fun _ _ _ => rfl⟩
theorem Abv.set {B : Nat} {w w' : World} (h : Abv B w w') (p : Addr) (hp : p.block < B) (v : Value) : Abv B w (w'.setCell p v) :=
  ⟨Nat.le_trans h.size (KeepsWalks.setCell w' p v).size, fun k hk hl => (Below.heap_setCell w' p v k (by omega)).trans (h.block k hk hl)⟩
theorem Abv.same {B : Nat} {w w' : World} (h : Abv B w w') {k : Nat} {o : Obj} (hk : B ≤ k) (ho : w.heap[k]? = some o) : w'.heap[k]? = some o :=
  (h.block k hk (Array.getElem?_eq_some_iff.1 ho).1).trans ho
theorem below_putObj {B : Nat} (w : World) (k : Nat) (o : Obj) (hk : B ≤ k) : Below B w (w.putObj k o) :=
  ⟨rfl, rfl, rfl, by simp, fun j hj => World.putObj_heap_other (by omega)⟩
theorem below_put {B : Nat} {u w : World} (h : Below B u w) (k : Nat) (o : Obj) (hk : B ≤ k) : Below B u (w.putObj k o) := h.trans (below_putObj w k o hk)

variable {α : Type} {P : Program}
/-- A function with bound arguments hands xs out, one by one, to whatever loop keeps what it reads (K): till all are out, or the loop says that it is enough. -/
def Hands (P : Program) (gf : Nat) (bd : Array Value) (m : Nat) (encs : α → Array Value) (xs : List α) (K : World → Prop) : Prop :=
  ∀ (l : Nat) (J : Nat → World → Prop) (Jx : World → Prop) (W : World), (∀ k W1, J k W1 → K W1) →
    (∀ k x W1, J k W1 → xs[k]? = some x → YieldAt Fence.wide m P l (encs x) W1 fun e W' => (e = .returned (.bool true) ∧ J (k + 1) W') ∨ (e = .returned (.bool false) ∧ Jx W')) →
    J 0 W → CallsIn Fence.wide (m + 1) P gf (bd ++ #[.func (.yield l) #[] #[]]) W fun e W' => (∃ v, e = .returned v) ∧ (J xs.length W' ∨ Jx W')

/-- How a round may end: on, or by a jump. -/
def rndPost (B : Nat) (I : World → Prop) (Ix : Code → World → Prop) (W : World) : Exit → Act → World → Prop
  | .normal, _, W' => Abv B W W' ∧ I W'
  | .ret, _, W' => Abv B W W' ∧ Ix .ret W'
  | .exit id, _, W' => Abv B W W' ∧ Ix (.exit id) W'
  | .goto t, _, W' => Abv B W W' ∧ Ix (.goto t) W'
  | _, _, _ => False

/-- The loop. -/
theorem wp_range_bound {g : Operand} {ps : Array Tmp} {assign body : Code} {Q : Exit → Act → World → Prop} {a : Act} {w : World} {m gf : Nat} {bd : Array Value}
    (hg : a.eval g = .func (.func gf) bd #[]) (eg : ∀ args w, (callFunc gf args).run P w = .ok (.enter gf args) w)
    {encs : α → Array Value} {xs : List α} {K : World → Prop} (hseq : Hands P gf bd m encs xs K) (hps : ∀ x, (encs x).size = ps.size)
    (I : Nat → World → Prop) (Ix : Code → World → Prop) (hI : ∀ k W W', I k W → Below w.heap.size W W' → I k W') (hIx : ∀ c W W', Ix c W → Below w.heap.size W W' → Ix c W')
    (hK : ∀ k W, I k W → K W) (h0 : I 0 w) (a1 : α → Act)
    (hassign : ∀ (l : Nat) (x : α) (W : World) (N : Act → World → Prop), N (a1 x) W →
      assign.wpIn (Fence.wide.inRound l) m P (Exit.then N (fun _ _ _ => False)) { tmps := (ps.zip (encs x)).foldl (fun t (p, v) => t.setIfInBounds p v) a.tmps, defers := [] } W)
    (hbody : ∀ (l k : Nat) (x : α) (W : World), I k W → xs[k]? = some x → body.wpIn (Fence.wide.inRound l) m P (rndPost w.heap.size (I (k + 1)) Ix W) (a1 x) W)
    (hdone : ∀ (D : Nat) (W : World), w.heap.size ≤ D → I xs.length W → W.heap[D]? = some (.deferred (some [])) → Q .normal { a with defers := { target := .collected D, args := #[] } :: a.defers } W)
    (hstop : ∀ (D : Nat) (c : Code) (W : World), w.heap.size ≤ D → Ix c W → W.heap[D]? = some (.deferred (some [])) → c.wpIn Fence.wide (m + 2) P Q { a with defers := { target := .collected D, args := #[] } :: a.defers } W) :
    (Code.rangeFunc g ps assign body).wpIn Fence.wide (m + 2) P Q a w := by
  refine wpIn_rangeFunc fun fn hfn => ?_
  obtain ⟨R, hR⟩ : ∃ R : LoopState → Option Code → Loop, R = fun s j => { state := s, pending := j, fn, tmps := a.tmps, params := ps, assign, body, defers := w.heap.size } := ⟨_, rfl⟩
  obtain ⟨B, hB⟩ : ∃ B, B = w.heap.size := ⟨_, rfl⟩
  obtain ⟨W1, hW1⟩ : ∃ W1, W1 = (w.alloc (.deferred (some []))).alloc (.loop (R .ready none)) := ⟨_, rfl⟩
  have hb1 : Below B w W1 := by
    rw [hW1, hB]
    exact ((Below.refl _ w).alloc (Nat.le_refl _) _).alloc (by simp) _
  have hr1 : W1.heap[B + 1]? = some (.loop (R .ready none)) := by
    have := World.alloc_heap_new (w.alloc (.deferred (some []))) (.loop (R .ready none))
    rwa [World.size_alloc, ← hW1, ← hB] at this
  have hd1 : W1.heap[B]? = some (.deferred (some [])) := by
    rw [hW1, hB]
    exact (Below.heap_alloc _ _ _ (by simp)).trans (World.alloc_heap_new w _)
  -- between two rounds; behind the last one
  obtain ⟨J, hJ⟩ : ∃ J : Nat → World → Prop, J = fun k W => I k W ∧ W.heap[B + 1]? = some (.loop (R .ready none)) ∧ W.heap[B]? = some (.deferred (some [])) := ⟨_, rfl⟩
  obtain ⟨Jx, hJx⟩ : ∃ Jx : World → Prop, Jx = fun W => ∃ c, Ix c W ∧ W.heap[B + 1]? = some (.loop (R .done (some c))) ∧ W.heap[B]? = some (.deferred (some [])) := ⟨_, rfl⟩
  have end_ : ∀ (j : Option Code) (W3 : World), W3.heap[B + 1]? = some (.loop { R .ready none with state := .busy }) →
      (Instr.endRound (B + 1) j).run P W3 = .ok (.bool j.isNone) (W3.putObj (B + 1) (.loop (R (if j.isNone then .ready else .done) j))) := fun j W3 h3 => by
    have := run_endRound (P := P) j h3
    rw [hR] at this ⊢
    exact this
  have round : ∀ k x W2, J k W2 → xs[k]? = some x → YieldAt Fence.wide m P (B + 1) (encs x) W2 fun e W' => (e = .returned (.bool true) ∧ J (k + 1) W') ∨ (e = .returned (.bool false) ∧ Jx W') := by
    intro k x W2 h2 hx
    rw [hJ] at h2
    obtain ⟨hi, hr, hd⟩ := h2
    have hl : B + 1 < W2.heap.size := (Array.getElem?_eq_some_iff.1 hr).1
    have hy := run_yield (P := P) (args := encs x) hr (by rw [hR]; exact hps x)
    rw [hR] at hy
    refine ⟨fn, _, assign, body, hy, roundIn_of_wpIn hfn (hassign _ x W2 _ ⟨_, run_beginRound hr (by rw [hR]), ?_⟩)⟩
    have hrb : (W2.putObj (B + 1) (.loop { R .ready none with state := .busy })).heap[B + 1]? = some (.loop { R .ready none with state := .busy }) := World.putObj_heap_same hl
    have hdb : (W2.putObj (B + 1) (.loop { R .ready none with state := .busy })).heap[B]? = some (.deferred (some [])) := (World.putObj_heap_other (by omega)).trans hd
    refine wpIn_mono (hbody _ k x _ (hI _ _ _ hi (below_putObj _ _ _ (by omega))) hx) ?_
    have on : ∀ (j : Option Code) (W3 : World), Abv w.heap.size (W2.putObj (B + 1) (.loop { R .ready none with state := .busy })) W3 →
        ∃ W4, (Instr.endRound (B + 1) j).run P W3 = .ok (.bool j.isNone) W4 ∧ Below w.heap.size W3 W4 ∧ W4.heap[B + 1]? = some (.loop (R (if j.isNone then .ready else .done) j)) ∧ W4.heap[B]? = some (.deferred (some [])) := fun j W3 h3 => by
      have q1 := h3.same (k := B + 1) (by omega) hrb
      have q2 := h3.same (k := B) (by omega) hdb
      exact ⟨_, end_ j W3 q1, below_putObj _ _ _ (by omega), World.putObj_heap_same (Array.getElem?_eq_some_iff.1 q1).1, (World.putObj_heap_other (by omega)).trans q2⟩
    have out : ∀ (c : Code) (W3 : World), Abv w.heap.size (W2.putObj (B + 1) (.loop { R .ready none with state := .busy })) W3 ∧ Ix c W3 →
        ∃ v W4, (Instr.endRound (B + 1) (some c)).run P W3 = .ok v W4 ∧ ((Ending.returned v = .returned (.bool true) ∧ J (k + 1) W4) ∨ (Ending.returned v = .returned (.bool false) ∧ Jx W4)) := fun c W3 h3 => by
      obtain ⟨W4, q1, q2, q3, q4⟩ := on (some c) W3 h3.1
      exact ⟨_, W4, q1, .inr ⟨rfl, by rw [hJx]; exact ⟨c, hIx _ _ _ h3.2 q2, q3, q4⟩⟩⟩
    intro e a3 W3 hp
    cases e with
    | normal =>
      obtain ⟨W4, q1, q2, q3, q4⟩ := on none W3 hp.1
      exact ⟨_, W4, q1, .inl ⟨rfl, by rw [hJ]; exact ⟨hI _ _ _ hp.2 q2, q3, q4⟩⟩⟩
    | ret => exact out .ret W3 hp
    | exit id => exact out (.exit id) W3 hp
    | goto t => exact out (.goto t) W3 hp
    | panic ch => exact hp.elim
    | outgrown => exact hp.elim
  refine ⟨B + 1, [{ target := .collected B, args := #[] }], W1, { target := .fn (.func gf) #[], args := bd ++ #[.func (.yield (B + 1)) #[] #[]] }, W1, gf, bd ++ #[.func (.yield (B + 1)) #[] #[]], W1, ?_, ?_, ?_, ?_, ?_, ?_⟩
  · rw [hW1, hR, hB]
    exact run_enterLoop_outer _ _ _ _ _
  · simp only [resolve, hg]
    simp [go_sem]
  · intro f' _
    trivial
  · simp [invoke, go_sem, eg]
  · intro h
    cases h
  · refine (hseq (B + 1) J Jx W1 (fun k W h => by rw [hJ] at h; exact hK k W h.1) round (by rw [hJ]; exact ⟨hI _ _ _ h0 (hB ▸ hb1), hr1, hd1⟩)).mono ?_
    rintro e W2 ⟨⟨v, rfl⟩, h | h⟩
    · rw [hJ] at h
      obtain ⟨hi, hr, hd⟩ := h
      have := run_endLoop (P := P) hr (by rw [hR]; simp)
      rw [hR] at this
      exact ⟨none, _, this, hdone B _ (by omega) (hI _ _ _ hi (below_putObj _ _ _ (by omega))) ((World.putObj_heap_other (by omega)).trans hd)⟩
    · rw [hJx] at h
      obtain ⟨c, hi, hr, hd⟩ := h
      have := run_endLoop (P := P) hr (by rw [hR]; simp)
      rw [hR] at this
      exact ⟨some c, _, this, hstop B c _ (by omega) (hIx _ _ _ hi (below_putObj _ _ _ (by omega))) ((World.putObj_heap_other (by omega)).trans hd)⟩
end Go.Proofs.YtfedcpnnmkkpaaaDoor
