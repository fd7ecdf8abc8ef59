/- A loop over any function value (a closure with what it has captured, a method's value): the iterator turns no cells between two rounds, a round turns nothing but cells. One law for the loop, over any program. -/
import Derived.Test.YtegmolmjoiklpaaLibK
import Derived.RangeFuncRecord
import Derived.RangeFuncSeq
import Derived.RangeFuncWrites
import Derived.RangeFuncBound
import Derived.RangeFuncCalls
import Derived.OrdersIn
import Derived.OrdersHeld
import Derived.Deep.RegionHeld
namespace Go.Proofs.Ytegmolmjoiklpaa
open Go Go.RowKit

/-- What an iterator may do between two rounds: new blocks; of the old ones it turns only its own (from D on) that are no cells. -/
structure Itr (D : Nat) (w w' : World) : Prop where
  os : w'.os = w.os
  tape : w'.tape = w.tape
  output : w'.output = w.output
  size : w.heap.size ≤ w'.heap.size
  block : ∀ k o, w.heap[k]? = some o → (k < D ∨ o.isCells = true) → w'.heap[k]? = some o
theorem Itr.refl (D : Nat) (w : World) : Itr D w w := ⟨rfl, rfl, rfl, Nat.le_refl _, fun _ _ h _ => h⟩
theorem Itr.trans {D : Nat} {w w1 w2 : World} (h : Itr D w w1) (h1 : Itr D w1 w2) : Itr D w w2 :=
  ⟨h1.os.trans h.os, h1.tape.trans h.tape, h1.output.trans h.output, Nat.le_trans h.size h1.size, fun k o ho hk => h1.block k o (h.block k o ho hk) hk⟩
theorem Itr.mono {D D' : Nat} {w w1 : World} (h : Itr D w w1) (hD : D' ≤ D) : Itr D' w w1 :=
  ⟨h.os, h.tape, h.output, h.size, fun k o ho hk => h.block k o ho (hk.elim (fun h => .inl (by omega)) .inr)⟩
theorem itr_of_below {w w' : World} (h : Below w.heap.size w w') (D : Nat) : Itr D w w' :=
  ⟨h.os, h.tape, h.output, h.size, fun k _ ho _ => (h.block k (Array.getElem?_eq_some_iff.1 ho).1).trans ho⟩
theorem itr_put {D : Nat} (w : World) (k : Nat) (o o' : Obj) (hk : D ≤ k) (ho : w.heap[k]? = some o) (hc : o.isCells = false) : Itr D w (w.putObj k o') :=
  ⟨rfl, rfl, rfl, by simp, fun j oj hj hD => by
    have : j ≠ k := fun e => by
      rw [e, ho] at hj
      cases hj
      rcases hD with h | h
      · omega
      · rw [hc] at h; cases h
    rw [World.putObj_heap_other this]
    exact hj⟩
theorem Itr.below {D : Nat} {w w' : World} (h : Itr D w w') (hD : D ≤ w.heap.size) : Below D w w' :=
  ⟨h.os, h.tape, h.output, h.size, fun k hk => by
    have : w.heap[k]? = some w.heap[k] := Array.getElem?_eq_getElem (by omega)
    rw [this]
    exact h.block k _ this (.inl hk)⟩
theorem Itr.cell {D : Nat} {w w' : World} (h : Itr D w w') {a : Addr} {v : Value} (hc : w.cell? a = some v) : w'.cell? a = some v := by
  cases ho : w.heap[a.block]? with
  | none => simp [World.cell?, ho] at hc
  | some o =>
    have hk : o.isCells = true := by
      rw [World.cell?, ho] at hc
      cases o <;> simp_all [Obj.isCells]
    rw [← hc]
    simp only [World.cell?, h.block _ _ ho (.inr hk), ho]
theorem Itr.obj {D : Nat} {w w' : World} (h : Itr D w w') {k : Nat} {c : Array Value} {T : TypeId} {f : Nat × Nat} (hc : w.heap[k]? = some (.cells c T f)) : w'.heap[k]? = some (.cells c T f) := h.block k _ hc (.inr rfl)
theorem Itr.row {D : Nat} {w w' : World} (h : Itr D w w') {base e size n : Nat} {v : Value} {xs : List Value} (ho : w.ownsRow base e size v n xs) : w'.ownsRow base e size v n xs := by
  refine ⟨ho.1, ?_⟩
  rcases ho.2 with q | ⟨g, cap, cur, rfl, e2, e3, e4⟩
  · exact .inl q
  · exact .inr ⟨g, cap, cur, rfl, e2, h.obj e3, e4⟩
/-- What a round may do: of the blocks from D on it turns only those of X (the loop's own), and it makes new ones. -/
structure Rnd (D : Nat) (X : List Nat) (w w' : World) : Prop where
  size : w.heap.size ≤ w'.heap.size
  block : ∀ k, D ≤ k → k < w.heap.size → k ∉ X → w'.heap[k]? = w.heap[k]?
theorem Rnd.refl (D : Nat) (X : List Nat) (w : World) : Rnd D X w w := ⟨Nat.le_refl _, fun _ _ _ _ => rfl⟩
theorem Rnd.trans {D : Nat} {X Y : List Nat} {w w1 w2 : World} (h : Rnd D X w w1) (h1 : Rnd D Y w1 w2) (hY : ∀ k ∈ Y, k ∈ X ∨ w.heap.size ≤ k) : Rnd D X w w2 :=
  ⟨Nat.le_trans h.size h1.size, fun k hD hk hX => (h1.block k hD (Nat.lt_of_lt_of_le hk h.size) (fun hm => (hY k hm).elim hX (fun h => by omega))).trans (h.block k hD hk hX)⟩
theorem Rnd.then {D : Nat} {X : List Nat} {w w1 w2 : World} (h : Rnd D X w w1) (h1 : Rnd D X w1 w2) : Rnd D X w w2 := h.trans h1 fun _ hk => .inl hk
theorem Rnd.mono {D D' : Nat} {X : List Nat} {w w' : World} (h : Rnd D X w w') (hD : D ≤ D') : Rnd D' X w w' := ⟨h.size, fun k hk => h.block k (by omega)⟩
theorem Rnd.at_ {D : Nat} {X : List Nat} {w w' : World} (h : Rnd D X w w') {k : Nat} {o : Obj} (hD : D ≤ k) (hk : k ∉ X) (ho : w.heap[k]? = some o) : w'.heap[k]? = some o := (h.block k hD (Array.getElem?_eq_some_iff.1 ho).1 hk).trans ho
theorem rnd_below {w w' : World} (h : Below w.heap.size w w') (D : Nat) (X : List Nat) : Rnd D X w w' := ⟨h.size, fun k _ hk _ => h.block k hk⟩
theorem rnd_put {D : Nat} {X : List Nat} (w : World) (k : Nat) (o : Obj) (hk : k < D) : Rnd D X w (w.putObj k o) := ⟨by simp, fun j hj _ _ => World.putObj_heap_other (by omega)⟩
theorem Rnd.set {D : Nat} {X : List Nat} {w w' : World} (h : Rnd D X w w') {j : Nat} (hj : j < D ∨ j ∈ X ∨ w.heap.size ≤ j) (o : Nat) (v : Value) : Rnd D X w (w'.setCell ⟨j, o, none⟩ v) :=
  ⟨by simpa [World.setCell] using h.size, fun k hD hk hX => by
    rw [heap_setCell_other _ _ _ _ (fun e => by
      subst e
      rcases hj with h1 | h1 | h1
      · omega
      · exact hX h1
      · omega)]
    exact h.block k hD hk hX⟩

variable {α : Type} {P : Program}
/-- A function value hands xs out, one by one, to whatever loop keeps what it reads (K): till all are out, or the loop says that it is enough. J k X: k are out, and X are the loop's own blocks since it began. -/
def HandsC (P : Program) (gf : Nat) (bd cap : Array Value) (encs : α → Array Value) (xs : List α) (K : World → Prop) : Prop :=
  ∀ (n l : Nat) (J : Nat → List Nat → World → Prop) (Jx : World → Prop) (W : World), (∀ k X W1, J k X W1 → K W1) →
    (∀ k X W1 W2, J k X W1 → Itr W.heap.size W1 W2 → J k X W2) → (∀ W1 W2, Jx W1 → Itr W.heap.size W1 W2 → Jx W2) →
    (∀ m k X x W1, J k X W1 → xs[k]? = some x → YieldAt Fence.wide m P l (encs x) W1 fun e W' => Rnd W.heap.size X W1 W' ∧ ((e = .returned (.bool true) ∧ ∃ X', (∀ q ∈ X', q ∈ X ∨ W1.heap.size ≤ q) ∧ J (k + 1) X' W') ∨ (e = .returned (.bool false) ∧ Jx W'))) →
    J 0 [] W → CallsIn Fence.wide n P gf (bd ++ #[.func (.yield l) #[] #[]] ++ cap) W fun e W' => (∃ v, e = .returned v) ∧ ((∃ X, J xs.length X W') ∨ Jx W')

/-- How a round may end: on, or by a jump. n0: what was there when it began. -/
def rndC (B : Nat) (X : List Nat) (n0 : Nat) (I : List Nat → World → Prop) (Ix : Code → World → Prop) (W : World) : Exit → Act → World → Prop
  | .normal, _, W' => Rnd B X W W' ∧ ∃ X', (∀ q ∈ X', q ∈ X ∨ n0 ≤ q) ∧ I X' W'
  | .ret, _, W' => Rnd B X W W' ∧ Ix .ret W'
  | .exit id, _, W' => Rnd B X W W' ∧ Ix (.exit id) W'
  | .goto t, _, W' => Rnd B X W W' ∧ Ix (.goto t) W'
  | _, _, _ => False

/-- The loop. -/
theorem wp_range_cap {g : Operand} {ps : Array Tmp} {assign body : Code} {Q : Exit → Act → World → Prop} {a : Act} {w : World} {n gf : Nat} {bd cap : Array Value}
    (hg : a.eval g = .func (.func gf) bd cap) (eg : ∀ args w, (callFunc gf args).run P w = .ok (.enter gf args) w)
    {encs : α → Array Value} {xs : List α} {K : World → Prop} (hseq : HandsC P gf bd cap encs xs K) (hps : ∀ x, (encs x).size = ps.size)
    (I : Nat → List Nat → World → Prop) (Ix : Code → World → Prop) (hI : ∀ k X W W', I k X W → Itr w.heap.size W W' → I k X W') (hIx : ∀ c W W', Ix c W → Itr w.heap.size W W' → Ix c W')
    (hK : ∀ k X W, I k X W → K W) (h0 : I 0 [] w)
    (hround : ∀ (m l k : Nat) (X : List Nat) (x : α) (W : World), I k X W → xs[k]? = some x → w.heap.size + 1 < W.heap.size → (w.heap.size ∉ X ∧ w.heap.size + 1 ∉ X) →
      assign.wpIn (Fence.wide.inRound l) m P (Exit.then (fun a' W' => Rnd w.heap.size X W W' ∧ ∀ W2, Kp [w.heap.size + 1] W' W2 → Itr w.heap.size W' W2 → body.wpIn (Fence.wide.inRound l) m P (rndC w.heap.size X W.heap.size (I (k + 1)) Ix W2) a' W2) (fun _ _ _ => False))
        { tmps := (ps.zip (encs x)).foldl (fun t (p, v) => t.setIfInBounds p v) a.tmps, defers := [] } W)
    (hdone : ∀ (D : Nat) (X : List Nat) (W : World), w.heap.size ≤ D → I xs.length X W → D ∉ X → W.heap[D]? = some (.deferred (some [])) → Q .normal { a with defers := { target := .collected D, args := #[] } :: a.defers } W)
    (hstop : ∀ (D : Nat) (c : Code) (W : World), w.heap.size ≤ D → Ix c W → W.heap[D]? = some (.deferred (some [])) → c.wpIn Fence.wide n P Q { a with defers := { target := .collected D, args := #[] } :: a.defers } W) :
    (Code.rangeFunc g ps assign body).wpIn Fence.wide n P Q a w := by
  refine wpIn_rangeFunc fun fn hfn => ?_
  obtain ⟨R, hR⟩ : ∃ R : LoopState → Option Code → Loop, R = fun s j => { state := s, pending := j, fn, tmps := a.tmps, params := ps, assign, body, defers := w.heap.size } := ⟨_, rfl⟩
  obtain ⟨B, hB⟩ : ∃ B, B = w.heap.size := ⟨_, rfl⟩
  obtain ⟨W1, hW1⟩ : ∃ W1, W1 = (w.alloc (.deferred (some []))).alloc (.loop (R .ready none)) := ⟨_, rfl⟩
  have hb1 : Below w.heap.size w W1 := by
    rw [hW1]
    exact ((Below.refl _ w).alloc (Nat.le_refl _) _).alloc (by simp) _
  have hs1 : W1.heap.size = B + 1 + 1 := by rw [hW1, hB]; simp
  have hr1 : W1.heap[B + 1]? = some (.loop (R .ready none)) := by
    have := World.alloc_heap_new (w.alloc (.deferred (some []))) (.loop (R .ready none))
    rwa [World.size_alloc, ← hW1, ← hB] at this
  have hd1 : W1.heap[B]? = some (.deferred (some [])) := by
    rw [hW1, hB]
    exact (Below.heap_alloc _ _ _ (by simp)).trans (World.alloc_heap_new w _)
  -- between two rounds; behind the last one
  obtain ⟨J, hJ⟩ : ∃ J : Nat → List Nat → World → Prop, J = fun k X W => I k X W ∧ (B ∉ X ∧ B + 1 ∉ X) ∧ W.heap[B + 1]? = some (.loop (R .ready none)) ∧ W.heap[B]? = some (.deferred (some [])) := ⟨_, rfl⟩
  obtain ⟨Jx, hJx⟩ : ∃ Jx : World → Prop, Jx = fun W => ∃ c, Ix c W ∧ W.heap[B + 1]? = some (.loop (R .done (some c))) ∧ W.heap[B]? = some (.deferred (some [])) := ⟨_, rfl⟩
  have end_ : ∀ (j : Option Code) (W3 : World), W3.heap[B + 1]? = some (.loop { R .ready none with state := .busy }) →
      (Instr.endRound (B + 1) j).run P W3 = .ok (.bool j.isNone) (W3.putObj (B + 1) (.loop (R (if j.isNone then .ready else .done) j))) := fun j W3 h3 => by
    have := run_endRound (P := P) j h3
    rw [hR] at this ⊢
    exact this
  have round : ∀ m k X x W2, J k X W2 → xs[k]? = some x → YieldAt Fence.wide m P (B + 1) (encs x) W2 fun e W' => Rnd W1.heap.size X W2 W' ∧ ((e = .returned (.bool true) ∧ ∃ X', (∀ q ∈ X', q ∈ X ∨ W2.heap.size ≤ q) ∧ J (k + 1) X' W') ∨ (e = .returned (.bool false) ∧ Jx W')) := by
    intro m k X x W2 h2 hx
    rw [hJ] at h2
    obtain ⟨hi, hBX, hr, hd⟩ := h2
    have hl : B + 1 < W2.heap.size := (Array.getElem?_eq_some_iff.1 hr).1
    have hy := run_yield (P := P) (args := encs x) hr (by rw [hR]; exact hps x)
    rw [hR] at hy
    refine ⟨fn, _, assign, body, hy, roundIn_of_wpIn hfn (wpIn_mono (hround m (B + 1) k X x W2 hi hx (by omega) (hB ▸ hBX)) ?_)⟩
    intro e a' W2' he
    cases e with
    | normal =>
      obtain ⟨hk2, hb2⟩ := he
      have hr2 : W2'.heap[B + 1]? = some (.loop (R .ready none)) := hk2.at_ (by omega) hBX.2 hr
      have hd2 : W2'.heap[B]? = some (.deferred (some [])) := hk2.at_ (by omega) hBX.1 hd
      have hl2 : B + 1 < W2'.heap.size := (Array.getElem?_eq_some_iff.1 hr2).1
      refine ⟨_, run_beginRound hr2 (by rw [hR]), ?_⟩
      obtain ⟨W3, hW3⟩ : ∃ W3, W3 = W2'.putObj (B + 1) (.loop { R .ready none with state := .busy }) := ⟨_, rfl⟩
      have hrb : W3.heap[B + 1]? = some (.loop { R .ready none with state := .busy }) := by rw [hW3]; exact World.putObj_heap_same hl2
      have hdb : W3.heap[B]? = some (.deferred (some [])) := by rw [hW3]; exact (World.putObj_heap_other (by omega)).trans hd2
      have hkp : Kp [w.heap.size + 1] W2' W3 := by
        rw [hW3]
        exact ⟨rfl, rfl, rfl, by simp, fun j _ hj => World.putObj_heap_other (fun e => hj (by rw [e, hB]; exact List.mem_singleton.2 rfl))⟩
      have hit : Itr w.heap.size W2' W3 := by rw [hW3]; exact itr_put _ _ _ _ (by omega) hr2 rfl
      have hf3 : Rnd W1.heap.size X W2 W3 := (hk2.mono (by omega)).then (by rw [hW3]; exact rnd_put _ _ _ (by omega))
      rw [← hW3]
      refine wpIn_mono (hb2 W3 hkp hit) ?_
      have on : ∀ (j : Option Code) (W4 : World), Rnd w.heap.size X W3 W4 →
          ∃ W5, (Instr.endRound (B + 1) j).run P W4 = .ok (.bool j.isNone) W5 ∧ Itr w.heap.size W4 W5 ∧ Rnd W1.heap.size X W2 W5 ∧ W5.heap[B + 1]? = some (.loop (R (if j.isNone then .ready else .done) j)) ∧ W5.heap[B]? = some (.deferred (some [])) := fun j W4 h4 => by
        have q1 := h4.at_ (by omega) hBX.2 hrb
        have q2 := h4.at_ (by omega) hBX.1 hdb
        exact ⟨_, end_ j W4 q1, itr_put _ _ _ _ (by omega) q1 rfl, (hf3.then (h4.mono (by omega))).then (rnd_put _ _ _ (by omega)), World.putObj_heap_same (Array.getElem?_eq_some_iff.1 q1).1, (World.putObj_heap_other (by omega)).trans q2⟩
      have out : ∀ (c : Code) (W4 : World), Rnd w.heap.size X W3 W4 ∧ Ix c W4 →
          ∃ v W5, (Instr.endRound (B + 1) (some c)).run P W4 = .ok v W5 ∧ Rnd W1.heap.size X W2 W5 ∧ ((Ending.returned v = .returned (.bool true) ∧ ∃ X', (∀ q ∈ X', q ∈ X ∨ W2.heap.size ≤ q) ∧ J (k + 1) X' W5) ∨ (Ending.returned v = .returned (.bool false) ∧ Jx W5)) := fun c W4 h4 => by
        obtain ⟨W5, q1, q2, q0, q3, q4⟩ := on (some c) W4 h4.1
        exact ⟨_, W5, q1, q0, .inr ⟨rfl, by rw [hJx]; exact ⟨c, hIx _ _ _ h4.2 q2, q3, q4⟩⟩⟩
      intro e a3 W4 hp
      cases e with
      | normal =>
        obtain ⟨hp1, X', hX', hp2⟩ := hp
        obtain ⟨W5, q1, q2, q0, q3, q4⟩ := on none W4 hp1
        refine ⟨_, W5, q1, q0, .inl ⟨rfl, X', hX', ?_⟩⟩
        rw [hJ]
        exact ⟨hI _ _ _ _ hp2 q2, ⟨fun hm => (hX' _ hm).elim hBX.1 (fun h => by omega), fun hm => (hX' _ hm).elim hBX.2 (fun h => by omega)⟩, q3, q4⟩
      | ret => exact out .ret W4 hp
      | exit id => exact out (.exit id) W4 hp
      | goto t => exact out (.goto t) W4 hp
      | panic ch => exact hp.elim
      | outgrown => exact hp.elim
    | ret => exact he.elim
    | exit id => exact he.elim
    | goto t => exact he.elim
    | panic ch => exact he.elim
    | outgrown => exact he.elim
  refine ⟨B + 1, [{ target := .collected B, args := #[] }], W1, { target := .fn (.func gf) cap, args := bd ++ #[.func (.yield (B + 1)) #[] #[]] }, W1, gf, bd ++ #[.func (.yield (B + 1)) #[] #[]] ++ cap, W1, ?_, ?_, ?_, ?_, ?_, ?_⟩
  · rw [hW1, hR, hB]
    exact run_enterLoop_outer _ _ _ _ _
  · simp only [resolve, hg]
    simp [go_sem]
  · intro f' _
    trivial
  · simp [invoke, go_sem, eg]
  · intro h
    cases h
  · refine (hseq (n - 1) (B + 1) J Jx W1 (fun k X W h => by rw [hJ] at h; exact hK k X W h.1) (fun k X U V h hit => ?_) (fun U V h hit => ?_) round (by rw [hJ]; exact ⟨hI _ _ _ _ h0 (itr_of_below hb1 _), ⟨by simp, by simp⟩, hr1, hd1⟩)).mono ?_
    · rw [hJ] at h ⊢
      exact ⟨hI _ _ _ _ h.1 (hit.mono (by omega)), h.2.1, hit.block _ _ h.2.2.1 (.inl (by omega)), hit.block _ _ h.2.2.2 (.inl (by omega))⟩
    · rw [hJx] at h ⊢
      obtain ⟨c, q1, q2, q3⟩ := h
      exact ⟨c, hIx _ _ _ q1 (hit.mono (by omega)), hit.block _ _ q2 (.inl (by omega)), hit.block _ _ q3 (.inl (by omega))⟩
    rintro e W2 ⟨⟨v, rfl⟩, ⟨X, h⟩ | h⟩
    · rw [hJ] at h
      obtain ⟨hi, hBX, hr, hd⟩ := h
      have := run_endLoop (P := P) hr (by rw [hR]; simp)
      rw [hR] at this
      exact ⟨none, _, this, hdone B X _ (by omega) (hI _ _ _ _ hi (itr_put _ _ _ _ (by omega) hr rfl)) hBX.1 ((World.putObj_heap_other (by omega)).trans hd)⟩
    · rw [hJx] at h
      obtain ⟨c, hi, hr, hd⟩ := h
      have := run_endLoop (P := P) hr (by rw [hR]; simp)
      rw [hR] at this
      exact ⟨some c, _, this, hstop B c _ (by omega) (hIx _ _ _ hi (itr_put _ _ _ _ (by omega) hr rfl)) ((World.putObj_heap_other (by omega)).trans hd)⟩

/-! ### A region that draws its order, within a round: as anywhere -/
theorem oper_in {l n : Nat} {o : Oper} {a : Act} {w : World} {K : Act → World → Prop} {Q : Exit → Act → World → Prop} (hd : ∀ c, o.op ≠ .defer c) (h : o.wp P a w K Q) :
    o.wpIn (Fence.wide.inRound l) n P a w K Q := by
  refine ⟨fun _ _ => trivial, ?_⟩
  rw [show (Fence.wide.inRound l).round = some l from rfl, Oper.semAt_some l _ _ hd]
  unfold Oper.wp at h
  cases hr : (execOp a.eval o).run P w with
  | ok x w' =>
    rw [hr] at h
    cases x with
    | value v => exact h
    | skip => exact h
    | defer d => exact h
    | enter f args => exact ⟨(fun q => nomatch q), CallsIn.inRound l (callsIn_wide.2 h)⟩
    | row row args => exact ⟨(fun q => nomatch q), fun c cs _ => let ⟨v, w', r, s⟩ := h c cs; ⟨v, w', r, stepsIn_wide.2 s⟩⟩
    | _ => exact h.elim
  | halt e w' =>
    rw [hr] at h
    cases e with
    | panic v => exact h
    | _ => exact h.elim
/-- No operation of a region is put off. -/
def nodef (ops : Array Oper) : Bool := ops.toList.all fun o => match o.op with | .defer .. => false | _ => true
theorem nodef_at {ops : Array Oper} (h : nodef ops = true) {i : Nat} {o : Oper} (ho : ops[i]? = some o) (c : Call) : o.op ≠ .defer c := fun e => by
  have hm : o ∈ ops.toList := by
    rw [Array.mem_toList_iff]
    exact Array.mem_of_getElem? ho
  have := List.all_eq_true.1 h o hm
  rw [e] at this
  cases this
theorem anyIn_of_any {l n : Nat} {md : Region.Mode} {ops : Array Oper} {Q : Exit → Act → World → Prop} (hd : nodef ops = true) (hq : ¬ LetsOut Q) :
    ∀ {fuel : Nat} {listed : Array Bool} {a : Act} {w : World}, wpAny P md ops Q fuel listed a w → wpAnyIn (Fence.wide.inRound l) n P md ops Q fuel listed a w
  | 0, _, _, _, h => h
  | _ + 1, _, a, w, h => ⟨h.1, fun i hi => by
    have h2 := h.2 i hi
    unfold wpOp at h2
    unfold wpOpIn
    cases ho : ops[i]? with
    | none =>
      rw [ho] at h2
      exact anyIn_of_any hd hq h2
    | some o =>
      rw [ho] at h2
      by_cases hw : Region.wanted o (yielded ops a.tmps) = true
      · simp only [hw, if_true] at h2 ⊢
        rcases h2 with h2 | h2
        · exact Oper.wpIn_mono (fun _ _ q => anyIn_of_any hd hq q) (oper_in (nodef_at hd ho) h2)
        · exact absurd h2.2 hq
      · simp only [hw, if_false, Bool.false_eq_true] at h2 ⊢
        exact ⟨fun _ _ => trivial, anyIn_of_any hd hq h2⟩⟩
/-- The beginning of such a region: as wp_region_held_drew. -/
theorem in_region_held_drew {l n : Nat} {ops : Array Oper} {Q : Exit → Act → World → Prop} {S : World → Prop} {id : Nat} {a : Act} {w : World} (hd : nodef ops = true) (hq : ¬ LetsOut Q) (hm : P.follows .mixedOrders = true) (hS : S w.drew)
    (h : S w.drew → wpAnyH P .any ops Q S ops.size (Array.replicate ops.size false) a w.drew) : (Code.region id ops true).wpIn (Fence.wide.inRound l) n P Q a w :=
  wpIn_region_any hm (anyIn_of_any hd hq (wpAny_of_held _ _ _ _ (h hS)))
end Go.Proofs.Ytegmolmjoiklpaa
