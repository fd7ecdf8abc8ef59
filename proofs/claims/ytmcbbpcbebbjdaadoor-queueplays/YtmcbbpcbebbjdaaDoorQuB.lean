/- The contracts of the program's queue: New, Len, Close, Closed, Put. -/
import Derived.Test.YtmcbbpcbebbjdaaDoorQuA
import Derived.Test.YtmcbbpcbebbjdaaDoorLibE
import Derived.Test.YtmcbbpcbebbjdaaDoorChecked
import Derived.BigQuiet
import Derived.Lib.Builder
namespace Go.Proofs.YtmcbbpcbebbjdaaDoor
open Go Go.RowKit

/-- A queue at block p, with room for r bytes, that has l; c: it is closed. -/
structure Qu (base : Nat) (w : World) (p : Nat) (v : Value) (r : Nat) (l : List UInt8) (c : Bool) : Prop where
  lo : base ≤ p
  var : w.heap[p]? = some (.cells #[.int .i64 (r : Nat), v, .bool c] 49 (0, 0))
  row : Ow w base 5 v l
  ne : v.ownBlock ≠ some p
  len : l.length ≤ r
  top : r ≤ 16384

/-- The queue's own blocks. -/
def qown (p : Nat) (v : Value) : List Nat := p :: v.ownBlock.toList

theorem qown_mem {p : Nat} {v : Value} {k : Nat} : k ∈ qown p v ↔ k = p ∨ v.ownBlock = some k := by
  rw [qown, List.mem_cons]
  cases h : v.ownBlock with
  | none => simp
  | some g => simp [eq_comm]

section
variable {base p r : Nat} {w u : World} {v v' : Value} {l : List UInt8} {c : Bool}
theorem Qu.lt (h : Qu base w p v r l c) : p < w.heap.size := (Array.getElem?_eq_some_iff.1 h.var).1
theorem Qu.kp {X : List Nat} (h : Qu base w p v r l c) (hk : Kp X w u) (hX : ∀ k ∈ qown p v, k ∉ X) : Qu base u p v r l c :=
  ⟨h.lo, hk.var h.var (hX p (qown_mem.2 (.inl rfl))), h.row.kp hk (fun k hk => hX k (qown_mem.2 (.inr hk))), h.ne, h.len, h.top⟩
theorem Qu.on (h : Qu base w p v r l c) (hb : Below w.heap.size w u) : Qu base u p v r l c := h.kp (kp_of_below hb []) (by simp)
theorem Qu.own_lo (h : Qu base w p v r l c) : ∀ k ∈ qown p v, base ≤ k ∧ k < w.heap.size := fun k hk => by
  rcases qown_mem.1 hk with rfl | hk
  · exact ⟨h.lo, h.lt⟩
  · exact h.row.lt hk
theorem Qu.cell0 (h : Qu base w p v r l c) : w.cell? ⟨p, 0, none⟩ = some (.int .i64 (r : Nat)) := (Lib.cell_of_heap h.var 0).trans rfl
theorem Qu.cell1 (h : Qu base w p v r l c) : w.cell? ⟨p, 1, none⟩ = some v := (Lib.cell_of_heap h.var 1).trans rfl
theorem Qu.cell2 (h : Qu base w p v r l c) : w.cell? ⟨p, 2, none⟩ = some (.bool c) := (Lib.cell_of_heap h.var 2).trans rfl
/-- Closed. -/
theorem Qu.close (h : Qu base w p v r l c) : Qu base (w.setCell ⟨p, 2, none⟩ (.bool true)) p v r l true ∧ Kp [p] w (w.setCell ⟨p, 2, none⟩ (.bool true)) :=
  ⟨⟨h.lo, (heap_setCell_same _ _ _ _ _ _ h.var).trans rfl, h.row.set _ h.ne _, h.ne, h.len, h.top⟩, (Kp.refl [p] w).set ⟨p, 2, none⟩ (by simp) _⟩
end

/-- Room for so many bytes. -/
def qroom (most : Int) : Nat := (max 0 (min most 16384)).toNat

theorem qroom_le (most : Int) : qroom most ≤ 16384 := by unfold qroom; omega
theorem qmm (most : Int) : max 0 (min most 16384) = ((qroom most : Nat) : Int) := by unfold qroom; omega

theorem min2_run {P : Program} (ts : Array TypeId) (t : TypeId) (x y : Int) (w : World) : (Builtin.min_ ts t #[.int .i64 x, .int .i64 y]).run P w = .ok (.int .i64 (min x y)) w := by
  have e : ∀ x y : Int, min x y = if y < x then y else x := fun x y => by
    rw [Int.min_def]
    split <;> split <;> omega
  simp [Builtin.min_, Builtin.min2, e]
theorem max2_run {P : Program} (ts : Array TypeId) (t : TypeId) (x y : Int) (w : World) : (Builtin.max_ ts t #[.int .i64 x, .int .i64 y]).run P w = .ok (.int .i64 (max x y)) w := by
  have e : ∀ x y : Int, max x y = if x < y then y else x := fun x y => by
    rw [Int.max_def]
    split <;> split <;> omega
  simp [Builtin.max_, Builtin.max2, e]

set_option maxRecDepth 100000 in
theorem qnew_any (w : World) (most : Int) : Calls Tryd.prog 6 #[.int .i64 most] w fun e w' => e = .returned (.pointer (some ⟨w.heap.size, 0, none⟩)) ∧ Below w.heap.size w w' ∧ ∀ base, base ≤ w.heap.size → Qu base w' w.heap.size (.slice none 0 0) (qroom most) [] false := by
  have h1 := min2_run (P := Tryd.prog) #[3, 3] 3 most 16384
  have h2 := max2_run (P := Tryd.prog) #[3, 3] 3 0 (min most 16384)
  rw [qmm] at h2
  go_enter Tryd.func6, Tryd.ntmps6
  go_wp2
  go_ret
  exact ⟨rfl, (Below.refl _ _).alloc (Nat.le_refl _) _, fun base hb => ⟨hb, heap_alloc_new w _, Ow.nil _ _ _, by simp [Value.ownBlock], Nat.zero_le _, qroom_le most⟩⟩

set_option maxRecDepth 100000 in
theorem qlen_any {base p r : Nat} {w : World} {v : Value} {l : List UInt8} {c : Bool} (h : Qu base w p v r l c) : Calls Tryd.prog 17 #[.pointer (some ⟨p, 0, none⟩)] w fun e w' => e = .returned (.int .i64 (l.length : Nat)) ∧ w' = w := by
  have c1 := h.cell1
  obtain ⟨a, k, rfl, _, _⟩ := h.row.rd
  generalize l.length = n at *
  clear h
  go_enter Tryd.func17, Tryd.ntmps17
  go_wp2
  go_ret
  exact ⟨rfl, rfl⟩

set_option maxRecDepth 100000 in
theorem qclosed_any {base p r : Nat} {w : World} {v : Value} {l : List UInt8} {c : Bool} (h : Qu base w p v r l c) : Calls Tryd.prog 18 #[.pointer (some ⟨p, 0, none⟩)] w fun e w' => e = .returned (.bool c) ∧ w' = w := by
  have c1 := h.cell2
  clear h
  go_enter Tryd.func18, Tryd.ntmps18
  go_wp2
  go_ret
  exact ⟨rfl, rfl⟩

set_option maxRecDepth 100000 in
theorem qclose_any {base p r : Nat} {w : World} {v : Value} {l : List UInt8} {c : Bool} (h : Qu base w p v r l c) : Calls Tryd.prog 12 #[.pointer (some ⟨p, 0, none⟩)] w fun e w' => e = .returned (.tuple #[]) ∧ Qu base w' p v r l true ∧ Kp [p] w w' := by
  have c1 := h.cell2
  have hf : ∀ j, w.frozen? ⟨p, j, none⟩ = false := Lib.frozen_of_heap h.var
  have hl := h.lt
  have HC := hid h.close
  clear h
  go_enter Tryd.func12, Tryd.ntmps12
  go_wp2
  refine bodyPost_end (v := .tuple #[]) ?_ rfl ⟨rfl, HC.out⟩
  simp [results, Tryd.results12, go_sem]

/-- Put's answer: which error. -/
def putK (r : Nat) (l : List UInt8) (c : Bool) (b : List UInt8) : Nat := if c = true then 15 else if r - l.length < b.length then 14 else 0
/-- Put's answer: what there is then. -/
def putL (r : Nat) (l : List UInt8) (c : Bool) (b : List UInt8) : List UInt8 := if c = true ∨ r - l.length < b.length then l else l ++ b
/-- Put's answer: closed. -/
def putC (r : Nat) (l : List UInt8) (c : Bool) (b : List UInt8) : Bool := c || decide (r - l.length < b.length)

theorem qinfo_parts {e : TypeId} {z : Value} {sz by_ : Nat} (h : (Tryd.prog.info? e).map (fun i => (i.zero, i.size, i.bytes)) = some (some z, sz, by_)) : ∃ i, Tryd.prog.info? e = some i ∧ i.zero = some z ∧ i.size = sz ∧ i.bytes = by_ := by
  obtain ⟨i, h1, h2⟩ := Option.map_eq_some_iff.1 h
  simp only [Prod.mk.injEq] at h2
  exact ⟨i, h1, h2.1, h2.2.1, h2.2.2⟩
theorem qinfoU8 : (Tryd.prog.info? 5).map (fun i => (i.zero, i.size, i.bytes)) = some (some (.int .u8 0), 1, 1) := by kernel_rfl

/-- What Put leaves. -/
def QPut (base : Nat) (w : World) (p : Nat) (v : Value) (r : Nat) (l : List UInt8) (c : Bool) (b : List UInt8) (w' : World) : Prop :=
  ∃ v', Qu base w' p v' r (putL r l c b) (putC r l c b) ∧ Kp (qown p v) w w' ∧ ∀ k, v'.ownBlock = some k → v.ownBlock = some k ∨ w.heap.size ≤ k

/-- ErrGone, ErrFull. -/
structure E2q (w : World) (es : List Addr) : Prop where
  full : w.cell? ⟨13, 0, none⟩ = some (erv es 14)
  gone : w.cell? ⟨14, 0, none⟩ = some (erv es 15)

theorem E2q.on {w w' : World} {es : List Addr} (h : E2q w es) (hb : Below w.heap.size w w') : E2q w' es :=
  ⟨(kp_of_below hb []).cell h.full (by simp), (kp_of_below hb []).cell h.gone (by simp)⟩

set_option maxRecDepth 100000 in
theorem qput_gone {base p r : Nat} {w : World} {v : Value} {l : List UInt8} (h : Qu base w p v r l true) (es : List Addr) (hE : E2q w es) (a : Option Addr) (n c' : Nat) (b : List UInt8) :
    Calls Tryd.prog 14 #[.pointer (some ⟨p, 0, none⟩), .slice a n c'] w fun e w' => e = .returned (erv es (putK r l true b)) ∧ QPut base w p v r l true b w' := by
  have c1 := h.cell2
  have c2 := hE.gone
  have hx := World.block_lt_of_cell? w _ c2
  have H := hid h
  clear h hE
  go_enter Tryd.func14, Tryd.ntmps14
  go_wp2
  go_ret
  exact ⟨rfl, v, H.out, Kp.refl _ _, fun k hk => .inl hk⟩

theorem Qu.ne_at {base p r : Nat} {w : World} {v : Value} {l : List UInt8} {c : Bool} (h : Qu base w p v r l c) {g : Nat} {t : TypeId} {x : Value} (hg : w.cell? ⟨g, 0, none⟩ = some (.iface t x)) : g ≠ p := fun e => by
  subst e
  have := h.cell0.symm.trans hg
  cases this

/-- What is put. -/
theorem Qu.put {base p r : Nat} {w w1 : World} {v v1 : Value} {l b : List UInt8} (h : Qu base w p v r l false) (hb : ¬ r - l.length < b.length) (o1 : Ow w1 base 5 v1 (l ++ b)) (g1 : w.grownBy w1 v.ownBlock) (hv1 : v1.ownBlock = v.ownBlock ∨ v1.ownBlock = some w.heap.size) :
    w1.heap[p]? = some (.cells #[.int .i64 (r : Nat), v, .bool false] 49 (0, 0)) ∧ QPut base w p v r l false b (w1.setCell ⟨p, 1, none⟩ v1) := by
  have hlt := h.lt
  have hlen := h.len
  have hvar : w1.heap[p]? = some (.cells #[.int .i64 (r : Nat), v, .bool false] 49 (0, 0)) := (g1.block p hlt (fun e => h.ne e.symm)).trans h.var
  have hne : v1.ownBlock ≠ some p := by
    rcases hv1 with e | e
    · rw [e]; exact h.ne
    · rw [e]; intro e; simp only [Option.some.injEq] at e; omega
  have e1 : putL r l false b = l ++ b := by rw [putL, if_neg (by simp [hb])]
  have e2 : putC r l false b = false := by rw [putC, decide_eq_false hb]; rfl
  refine ⟨hvar, v1, ?_, ((kp_of_grown g1).mono (fun k hk _ => qown_mem.2 (.inr (by simpa using hk)))).set ⟨p, 1, none⟩ (qown_mem.2 (.inl rfl)) _, fun k hk => ?_⟩
  · rw [e1, e2]
    exact ⟨h.lo, (heap_setCell_same _ _ _ _ _ _ hvar).trans rfl, o1.set _ hne _, hne, by rw [List.length_append]; omega, h.top⟩
  · rcases hv1 with e | e
    · exact .inl (by rw [← e]; exact hk)
    · rw [e] at hk
      simp only [Option.some.injEq] at hk
      exact .inr (by omega)

set_option maxRecDepth 100000 in
theorem qput_full {base p r : Nat} {w : World} {v : Value} {l : List UInt8} (h : Qu base w p v r l false) (es : List Addr) (hE : E2q w es) (a : Option Addr) (n c' : Nat) (b : List UInt8) (hr : Rd w a n c' b) (hf : r - l.length < b.length) :
    Calls Tryd.prog 14 #[.pointer (some ⟨p, 0, none⟩), .slice a n c'] w fun e w' => e = .returned (erv es (putK r l false b)) ∧ QPut base w p v r l false b w' := by
  have c0 := h.cell0
  have c1 := h.cell1
  have c2 := h.cell2
  have c3 := hE.full
  have hx := World.block_lt_of_cell? w _ c3
  have hfr : ∀ j, w.frozen? ⟨p, j, none⟩ = false := Lib.frozen_of_heap h.var
  have hlt := h.lt
  have hne := h.ne_at c3
  have hlen := hr.len
  have hle := h.len
  have htop := h.top
  have hmax := hr.max
  have hle2 := hr.le
  simp only [maxLen] at hmax
  have HP : Hid (putK r l false b = 14 ∧ putL r l false b = l ∧ putC r l false b = true) := by
    refine ⟨?_, ?_, ?_⟩
    · rw [putK, if_neg (by decide), if_pos hf]
    · rw [putL, if_pos (.inr hf)]
    · rw [putC, decide_eq_true hf]; rfl
  have HC : Hid (∀ q, QPut base w p v r l false b ((w.drewN q).setCell ⟨p, 2, none⟩ (.bool true))) := fun q => by
    have hb : Below w.heap.size w (w.drewN q) := below_drewN (Below.refl _ _) q
    refine ⟨v, ?_, ((kp_of_below hb _).set ⟨p, 2, none⟩ (qown_mem.2 (.inl rfl)) _), fun k hk => .inl hk⟩
    rw [HP.out.2.1, HP.out.2.2]
    exact (h.on hb).close.1
  obtain ⟨av, k, rfl, _, _⟩ := h.row.rd
  have hgt : ((r : Int) - (l.length : Nat) < (n : Int)) := by omega
  have e1 : decide ((r : Int) - (l.length : Nat) < (n : Int)) = true := decide_eq_true hgt
  rw [HP.out.1]
  clear HP
  generalize QPut base w p (.slice av l.length k) r l false b = Q at HC ⊢
  generalize l.length = m at *
  clear h hE hr hf
  go_enter Tryd.func14, Tryd.ntmps14
  go_wp2
  go_quiet (fail)
  go_wp2
  go_ret
  exact ⟨rfl, HC.out _⟩

set_option maxRecDepth 100000 in
theorem qput_ok {base p r : Nat} {w : World} (hbase : base ≤ w.heap.size) {v : Value} {l : List UInt8} (h : Qu base w p v r l false) (es : List Addr) (a : Option Addr) (n c' : Nat) (b : List UInt8) (hr : Rd w a n c' b) (hf : ¬ r - l.length < b.length) :
    Calls Tryd.prog 14 #[.pointer (some ⟨p, 0, none⟩), .slice a n c'] w fun e w' => e = .returned (erv es (putK r l false b)) ∧ QPut base w p v r l false b w' := by
  obtain ⟨i0, hi, hz0, hz1, hz2⟩ := qinfo_parts qinfoU8
  have c0 := h.cell0
  have c1 := h.cell1
  have c2 := h.cell2
  have hlt := h.lt
  have hlen := hr.len
  have hle := h.len
  have htop := h.top
  have HP : Hid (putK r l false b = 0) := by rw [Hid, putK, if_neg (by decide), if_neg hf]
  have HS : Hid (∀ q, Src Tryd.prog 1 27 (.slice a n c') n (bc b) (w.drewN q)) := fun q => (hr.below (below_drewN (Below.refl _ w) q) (fun x hx _ => by
    obtain ⟨bl, off, e, hbl, _⟩ := hr.plain (by omega)
    rw [hx] at e
    cases e
    exact hbl)).src Tryd.underlying27
  have HO : Hid (∀ q, Ow (w.drewN q) base 5 v l) := fun q => h.row.kp (kp_of_below (below_drewN (Below.refl _ w) q) []) (by simp)
  have HQ : Hid (∀ q w1 v1, Ow w1 base 5 v1 (l ++ b) → (w.drewN q).grownBy w1 v.ownBlock → (v1.ownBlock = v.ownBlock ∨ v1.ownBlock = some w.heap.size) → w1.heap[p]? = some (.cells #[.int .i64 (r : Nat), v, .bool false] 49 (0, 0)) ∧ QPut base w p v r l false b (w1.setCell ⟨p, 1, none⟩ v1)) := fun q w1 v1 o1 g1 hv1 =>
    h.put hf o1 ⟨g1.os, g1.tape, g1.output, g1.size, g1.block⟩ hv1
  rw [HP.out]
  generalize hQ : QPut base w p v r l false b = Q at HQ ⊢
  obtain ⟨av, k, rfl, _, _⟩ := h.row.rd
  have hgt : ¬ ((r : Int) - (l.length : Nat) < (n : Int)) := by omega
  have e1 : decide ((r : Int) - (l.length : Nat) < (n : Int)) = false := decide_eq_false hgt
  have hsm : l.length + n ≤ 1000000 := by omega
  have hbn : (bc b).length = n := by rw [bc_length, hlen]
  clear h hr hf HP hQ
  go_enter Tryd.func14, Tryd.ntmps14
  go_wp2
  go_quiet (fail)
  go_wp2_with (at_builtin; refine wpList_append_ow _ rfl (.tmp 31) (.tmp 32) 27 27 rfl base 5 i0 (.int .u8 0) Tryd.underlying27 hi hz0 hz1 hz2 rfl _ l rfl (HO.out _) _ _ b rfl (HS.out _) hsm hbase ?_; intro v1 w1 o1 g1 hv1; obtain ⟨a1, k1, rfl, _, _⟩ := o1.rd; obtain ⟨hp1, hA⟩ := HQ.out _ _ _ o1 g1 hv1; have d1 : w1.cell? ⟨p, 1, none⟩ = some (.slice av l.length k) := (by rw [Lib.cell_of_heap hp1]; rfl); have df : ∀ j, w1.frozen? ⟨p, j, none⟩ = false := Lib.frozen_of_heap hp1; have dl : p < w1.heap.size := (Array.getElem?_eq_some_iff.1 hp1).1; clear HQ HO HS c0 c1 c2 o1 g1 hv1 hp1)
  go_wp2
  go_ret
  rw [List.length_append, hlen] at hA
  exact ⟨rfl, hA⟩

/-- Put. -/
theorem qput_any {base p r : Nat} {w : World} (hbase : base ≤ w.heap.size) {v : Value} {l : List UInt8} {c : Bool} (h : Qu base w p v r l c) (es : List Addr) (hE : E2q w es) (a : Option Addr) (n c' : Nat) (b : List UInt8) (hr : Rd w a n c' b) :
    Calls Tryd.prog 14 #[.pointer (some ⟨p, 0, none⟩), .slice a n c'] w fun e w' => e = .returned (erv es (putK r l c b)) ∧ QPut base w p v r l c b w' := by
  cases c with
  | true => exact qput_gone h es hE a n c' b
  | false =>
    by_cases hf : r - l.length < b.length
    · exact qput_full h es hE a n c' b hr hf
    · exact qput_ok hbase h es a n c' b hr hf
end Go.Proofs.YtmcbbpcbebbjdaaDoor
