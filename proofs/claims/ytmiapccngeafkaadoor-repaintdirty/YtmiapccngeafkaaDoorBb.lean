/- Slices of structs of numbers, as they come in: opened. Over any program. -/
import Derived.Test.YtmiapccngeafkaaDoorBa
import Derived.Lib.SmallJoins
import Derived.OpenShut
import Derived.ShutString
import Derived.ChangeOld
import Derived.SizedLaws
namespace Go.Proofs.YtmiapccngeafkaaDoor
open Go Go.ChangeShapes Go.WideShapes Go.ChangeAt Go.RowKit Go.Deep

/-- A slice whose first n elements are structs of m numbers, l. -/
structure RdN (m : Nat) (w : World) (a : Option Addr) (n c : Nat) (l : List (List Int)) : Prop where
  len : l.length = n
  le : n ≤ c
  max : c ≤ maxLen
  hnil : a = none → c = 0
  cells : ∀ x, a = some x → ∀ j y, l[j]? = some y → ∀ i z, y[i]? = some z → w.cell? (x.add (j * m + i)) = some (.int .i64 z)
  size : ∀ y ∈ l, y.length = m
  wf : ∀ y ∈ l, ∀ z ∈ y, (Lit.int .i64 z).wf = true

/-- A struct of numbers alone, a cell each. -/
def numsB (P : Program) (fs : Array Field) : Bool := (List.range fs.size).all fun i => match fs[i]? with
  | some f => decide (f.offset = i) && decide (P.cellsOf f.type = 1) && (match P.underlying f.type with | some (.int .i64) => true | _ => false)
  | none => false

def numOf : Value → Int
  | .int _ a => a
  | _ => 0

variable {H : Type} {enc : TypeId × Value → H} {W : World} {P : Program}

theorem numsB_at {fs : Array Field} (h : numsB P fs = true) {i : Nat} {f : Field} (hi : fs[i]? = some f) : f.offset = i ∧ P.cellsOf f.type = 1 ∧ P.underlying f.type = some (.int .i64) := by
  have hlt : i < fs.size := (Array.getElem?_eq_some_iff.1 hi).1
  have := List.all_eq_true.1 h i (List.mem_range.2 hlt)
  rw [hi] at this
  simp only [Bool.and_eq_true, decide_eq_true_eq] at this
  refine ⟨this.1.1, this.1.2, ?_⟩
  have h3 := this.2
  split at h3
  · assumption
  · cases h3

theorem open_nums {t : TypeId} {fs : Array Field} (ht : P.underlying t = some (.struct fs)) (hc : P.cellsOf t = fs.size) (hf : numsB P fs = true) {n : Nat} {cs : List Value} {x : DataW H × List MemPlace}
    (h : DataW.trod enc P W 0 (fun _ => true) true n t cs = some x) : ∃ y : List Int, y.length = fs.size ∧ cs = y.map (Value.int .i64) ∧ ∀ z ∈ y, (Lit.int .i64 z).wf = true := by
  obtain ⟨xs, k, _, _, hl, hlen, hx⟩ := DataW.trod_struct ht h
  rw [hc] at hl
  have each : ∀ i, i < fs.size → ∃ a, cs[i]? = some (.int .i64 a) ∧ (Lit.int .i64 a).wf = true := fun i hi => by
    obtain ⟨f, hfi⟩ : ∃ f, fs[i]? = some f := ⟨_, Array.getElem?_eq_getElem hi⟩
    obtain ⟨h1, h2, h3⟩ := numsB_at hf hfi
    have hd := hx i f (by rw [← Array.getElem?_toList] at hfi; first | exact hfi | simpa using hfi)
    obtain ⟨yi, hyi⟩ : ∃ y, xs[i]? = some y := ⟨_, List.getElem?_eq_getElem (by rw [hlen]; first | exact hi | simpa using hi)⟩
    rw [h1, h2, hyi] at hd
    obtain ⟨a, e0, _, w0⟩ := DataW.trod_int h3 hd
    refine ⟨a, ?_, w0⟩
    have : ((cs.drop i).take 1)[0]? = some (.int .i64 a) := by rw [e0]; rfl
    rw [List.getElem?_take_of_lt (by omega), List.getElem?_drop] at this
    simpa using this
  refine ⟨cs.map numOf, by rw [List.length_map, hl], ?_, fun z hz => ?_⟩
  · apply List.ext_getElem?
    intro i
    rw [List.getElem?_map, List.getElem?_map]
    rcases Nat.lt_or_ge i fs.size with hi | hi
    · obtain ⟨a, h1, _⟩ := each i hi
      rw [h1]
      rfl
    · rw [List.getElem?_eq_none (by omega)]
      rfl
  · obtain ⟨v, hv, rfl⟩ := List.mem_map.1 hz
    obtain ⟨i, hi⟩ := List.mem_iff_getElem?.1 hv
    have hlt : i < fs.size := by rw [← hl]; exact (List.getElem?_eq_some_iff.1 hi).1
    obtain ⟨a, h1, h2⟩ := each i hlt
    rw [hi] at h1
    cases h1
    exact h2

theorem okWide_nums {t : TypeId} {fs : Array Field} {r : Reach} {b0 : Nat} {v : Value} (ht : P.underlying t = some (.struct fs)) (hc : P.cellsOf t = fs.size) (hf : numsB P fs = true) (hv : Value.okWide P W r b0 t v) {d : DataW H} {p : List MemPlace}
    (h : DataW.Trod enc P W 0 (fun _ => true) true t v d p) : ∃ y : List Int, y.length = fs.size ∧ v = .agg (y.map (Value.int .i64)).toArray ∧ ∀ z ∈ y, (Lit.int .i64 z).wf = true := by
  obtain ⟨cs, rfl, _⟩ := okWide_struct ht hv
  obtain ⟨fuel, hf'⟩ := h
  obtain ⟨y, hy, hcs, hw⟩ := open_nums ht hc hf hf'
  refine ⟨y, hy, ?_, hw⟩
  rw [← hcs]
  simp [Value.cells]

set_option maxRecDepth 100000 in
theorem open_structs {T E : TypeId} {fs : Array Field} {m : Nat} (hT : P.underlying T = some (.slice E)) (ht : P.underlying E = some (.struct fs)) (hm0 : fs.size = m) (hc : P.cellsOf E = m) (hf : numsB P fs = true) {d : DataW H} {p : List MemPlace}
    {a : Option Addr} {n c : Nat} (h : DataW.Trod enc P W 0 (fun _ => true) true T (.slice a n c) d p) : ∃ l, RdN m W a n c l := by
  subst hm0
  obtain ⟨fuel, hf'⟩ := h
  rcases open_slice hT hf' with ⟨hcs, _⟩ | ⟨a, len, cap, mm, k, D, Pl, hcs, hb, hl, hm, hmm, _, hx⟩
  · simp [Value.cells] at hcs
    obtain ⟨rfl, rfl, rfl⟩ := hcs
    exact ⟨[], rfl, Nat.le_refl _, Nat.zero_le _, fun _ => rfl, (fun _ h => by cases h), (fun _ h => by cases h), fun _ h => by cases h⟩
  · simp [Value.cells] at hcs
    obtain ⟨rfl, rfl, rfl⟩ := hcs
    simp only [if_true] at hmm
    subst hmm
    rw [hc] at hx
    have each : ∀ i, i < n → ∃ y : List Int, y.length = fs.size ∧ (∀ z ∈ y, (Lit.int .i64 z).wf = true) ∧ ∀ q z, y[q]? = some z → W.cell? (a.add (i * fs.size + q)) = some (.int .i64 z) := fun i hi => by
      obtain ⟨cs', h1, h2⟩ := hx i (by omega)
      obtain ⟨y, hy, rfl, hw⟩ := open_nums ht hc hf h2
      refine ⟨y, hy, hw, fun q z hq => ?_⟩
      obtain ⟨_, _, hcc⟩ := World.cells?_some h1
      have hlt : q < fs.size := by rw [← hy]; exact (List.getElem?_eq_some_iff.1 hq).1
      have := hcc q hlt
      rw [List.getElem?_map, hq, add_add] at this
      exact this
    obtain ⟨f, hfn⟩ := choose_lt (α := List Int) each
    have mem : ∀ y ∈ (List.range n).map f, ∃ i, i < n ∧ y = f i := fun y hy => by
      obtain ⟨i, hi, rfl⟩ := List.mem_map.1 hy
      exact ⟨i, List.mem_range.1 hi, rfl⟩
    refine ⟨(List.range n).map f, by simp, hl, hm, (fun h => by cases h), fun y hy j z hj q u hu => ?_, fun y hy => ?_, fun y hy => ?_⟩
    · cases hy
      rw [List.getElem?_map] at hj
      obtain ⟨i, hi, rfl⟩ := Option.map_eq_some_iff.1 hj
      have hlt : j < n := by
        rcases Nat.lt_or_ge j n with h' | h'
        · exact h'
        · rw [List.getElem?_eq_none (by simpa using h')] at hi; cases hi
      rw [List.getElem?_range hlt] at hi
      cases hi
      exact (hfn j hlt).2.2 q u hu
    · obtain ⟨i, hi, rfl⟩ := mem y hy
      exact (hfn i hi).1
    · obtain ⟨i, hi, rfl⟩ := mem y hy
      exact (hfn i hi).2.1

/-- An element: where it lies. -/
theorem RdN.at_ {m : Nat} {w : World} {a : Option Addr} {n c : Nat} {l : List (List Int)} (h : RdN m w a n c l) (hm : 0 < m) (j : Nat) (hj : j < n) : ∃ b off y, a = some ⟨b, off, none⟩ ∧ b < w.heap.size ∧ l[j]? = some y ∧ y.length = m ∧ (∀ z ∈ y, -9223372036854775808 ≤ z ∧ z ≤ 9223372036854775807) ∧ ∀ i z, y[i]? = some z → w.cell? ⟨b, off + (j * m + i), none⟩ = some (.int .i64 z) := by
  have hl := h.len
  obtain ⟨y, hy⟩ : ∃ y, l[j]? = some y := ⟨_, List.getElem?_eq_getElem (by omega)⟩
  have hmem := List.mem_of_getElem? hy
  cases a with
  | none => have := h.hnil rfl; have := h.le; omega
  | some x =>
    obtain ⟨b, off, spot⟩ := x
    have hsz := h.size y hmem
    have hspot : spot = none := by
      obtain ⟨y0, hy0⟩ : ∃ y, l[0]? = some y := ⟨_, List.getElem?_eq_getElem (by omega)⟩
      have h0 := h.size y0 (List.mem_of_getElem? hy0)
      have := h.cells _ rfl 0 y0 hy0 0 _ (List.getElem?_eq_getElem (by omega))
      simpa [Addr.add] using World.cell?_spot this
    subst hspot
    have hc := h.cells _ rfl j y hy
    refine ⟨b, off, y, rfl, ?_, hy, hsz, fun z hz => ?_, fun i z hi => ?_⟩
    · have := hc 0 _ (List.getElem?_eq_getElem (by omega))
      rw [Go.WideShapes.add_plain] at this
      exact World.block_lt_of_cell? w _ this
    · have := h.wf y hmem z hz
      simpa [Lit.wf, IntKind.min, IntKind.max, IntKind.signed, IntKind.bits] using this
    · rw [← Go.WideShapes.add_plain]
      exact hc i z hi
end Go.Proofs.YtmiapccngeafkaaDoor

/- What comes in; points. -/
namespace Go.Proofs.YtmiapccngeafkaaDoor
open Go Go.RowKit

theorem range64 {z : Int} (h : (Lit.int .i64 z).wf = true) : -9223372036854775808 ≤ z ∧ z ≤ 9223372036854775807 := by
  simpa [Lit.wf, IntKind.min, IntKind.max, IntKind.signed, IntKind.bits] using h

theorem ok4 {x y z u : Int} (h : ∀ k ∈ [x, y, z, u], (Lit.int .i64 k).wf = true) : (⟨x, y, z, u⟩ : Rc).Ok :=
  ⟨range64 (h x (by simp)), range64 (h y (by simp)), range64 (h z (by simp)), range64 (h u (by simp))⟩

theorem Bx.drewN {u : World} {p : Nat} {a : Rc} (h : Bx u p a) (q : Nat) : Bx (u.drewN q) p a := ⟨h.obj⟩

theorem has_iff {a : Rc} {x y : Int} : has a x y = true ↔ 1 ≤ a.w ∧ 1 ≤ a.h ∧ a.x ≤ x ∧ x < a.x + a.w ∧ a.y ≤ y ∧ y < a.y + a.h := by
  simp only [has, emp, wth, Bool.and_eq_true, Bool.not_eq_true', Bool.or_eq_false_iff, decide_eq_true_eq, decide_eq_false_iff_not]
  omega
theorem has_no {a : Rc} {x y : Int} (h : ¬ (1 ≤ a.w ∧ 1 ≤ a.h ∧ a.x ≤ x ∧ x < a.x + a.w ∧ a.y ≤ y ∧ y < a.y + a.h)) : has a x y = false := by
  cases hh : has a x y
  · rfl
  · exact absurd (has_iff.1 hh) h
end Go.Proofs.YtmiapccngeafkaaDoor

/- Regions: what they are, and that a set of points has just one; lines' rectangles put together. No program. -/
namespace Go.Proofs.YtmiapccngeafkaaDoor
open Go Go.RowKit

/-- A point is in one of them. -/
def pt (l : List Rc) (x y : Int) : Bool := l.any fun r => has r x y
theorem pt_iff {l : List Rc} {x y : Int} : pt l x y = true ↔ ∃ r ∈ l, has r x y = true := by simp [pt]
theorem pt_no {l : List Rc} {x y : Int} : pt l x y = false ↔ ∀ r ∈ l, has r x y = false := by simp [pt]

/-- r may come behind a: in its band, or in one below. -/
def Aft (a r : Rc) : Prop := (r.y = a.y ∧ r.h = a.h ∧ a.x + a.w < r.x) ∨ a.y + a.h ≤ r.y

/-- In bands. -/
structure Bands (l : List Rc) : Prop where
  ck : ∀ r ∈ l, Ck r
  aft : l.Pairwise Aft

/-- A region. -/
structure Reg (l : List Rc) : Prop where
  ck : ∀ r ∈ l, Ck r
  aft : l.Pairwise Aft
  top : ∀ r ∈ l, ∃ x, pt l x (r.y - 1) ≠ pt l x r.y

theorem Reg.bands {l : List Rc} (h : Reg l) : Bands l := ⟨h.ck, h.aft⟩

theorem pairwise_two {α : Type} {R : α → α → Prop} {l : List α} (h : l.Pairwise R) {a b : α} (ha : a ∈ l) (hb : b ∈ l) : a = b ∨ R a b ∨ R b a := by
  induction l with
  | nil => cases ha
  | cons c l ih =>
    rw [List.pairwise_cons] at h
    rcases List.mem_cons.1 ha with rfl | ha'
    · rcases List.mem_cons.1 hb with rfl | hb'
      · exact .inl rfl
      · exact .inr (.inl (h.1 _ hb'))
    · rcases List.mem_cons.1 hb with rfl | hb'
      · exact .inr (.inr (h.1 _ ha'))
      · exact ih h.2 ha' hb'

theorem Bands.two {l : List Rc} (h : Bands l) {a b : Rc} (ha : a ∈ l) (hb : b ∈ l) : a = b ∨ Aft a b ∨ Aft b a := pairwise_two h.aft ha hb

/-- Two that meet in height are of one band. -/
theorem Bands.meet {l : List Rc} (h : Bands l) {a b : Rc} (ha : a ∈ l) (hb : b ∈ l) {y : Int} (h1 : a.y ≤ y ∧ y < a.y + a.h) (h2 : b.y ≤ y ∧ y < b.y + b.h) : a.y = b.y ∧ a.h = b.h ∧ (a = b ∨ a.x + a.w < b.x ∨ b.x + b.w < a.x) := by
  rcases h.two ha hb with rfl | h3 | h3
  · exact ⟨rfl, rfl, .inl rfl⟩
  · rcases h3 with ⟨e1, e2, e3⟩ | h3
    · exact ⟨e1.symm, e2.symm, .inr (.inl e3)⟩
    · omega
  · rcases h3 with ⟨e1, e2, e3⟩ | h3
    · exact ⟨e1, e2, .inr (.inr e3)⟩
    · omega

/-- All lines of a band are alike. -/
theorem Bands.line {l : List Rc} (h : Bands l) {r : Rc} (hr : r ∈ l) {y : Int} (hy : r.y ≤ y ∧ y < r.y + r.h) (x : Int) : pt l x y = pt l x r.y := by
  have k := h.ck r hr
  have k1 := k.h
  rw [Bool.eq_iff_iff, pt_iff, pt_iff]
  constructor
  · rintro ⟨a, ha, hh⟩
    rw [has_iff] at hh
    obtain ⟨e1, e2, _⟩ := h.meet ha hr (y := y) ⟨by omega, by omega⟩ hy
    exact ⟨a, ha, has_iff.2 ⟨by omega, by omega, by omega, by omega, by omega, by omega⟩⟩
  · rintro ⟨a, ha, hh⟩
    rw [has_iff] at hh
    obtain ⟨e1, e2, _⟩ := h.meet ha hr (y := r.y) ⟨by omega, by omega⟩ ⟨by omega, by omega⟩
    exact ⟨a, ha, has_iff.2 ⟨by omega, by omega, by omega, by omega, by omega, by omega⟩⟩

/-- What a region's points say of a rectangle of it. -/
structure Mark (f : Int → Int → Bool) (r : Rc) : Prop where
  w : 1 ≤ r.w
  h : 1 ≤ r.h
  ins : ∀ x, r.x ≤ x → x < r.x + r.w → f x r.y = true
  left : f (r.x - 1) r.y = false
  right : f (r.x + r.w) r.y = false
  line : ∀ y, r.y ≤ y → y < r.y + r.h → ∀ x, f x y = f x r.y
  top : ∃ x, f x (r.y - 1) ≠ f x r.y
  bot : ∃ x, f x (r.y + r.h) ≠ f x r.y

theorem Reg.mark {l : List Rc} (h : Reg l) {r : Rc} (hr : r ∈ l) : Mark (pt l) r := by
  have k := h.ck r hr
  have k1 := k.h
  have k2 := k.w
  have hin : ∀ x, r.x ≤ x → x < r.x + r.w → pt l x r.y = true := fun x h1 h2 => pt_iff.2 ⟨r, hr, has_iff.2 ⟨by omega, by omega, by omega, by omega, by omega, by omega⟩⟩
  refine ⟨k2, k1, hin, ?_, ?_, fun y h1 h2 x => h.bands.line hr ⟨h1, h2⟩ x, h.top r hr, ?_⟩
  · rw [pt_no]
    intro a ha
    cases hh : has a (r.x - 1) r.y
    · rfl
    · rw [has_iff] at hh
      obtain ⟨e1, e2, e3⟩ := h.bands.meet ha hr (y := r.y) ⟨by omega, by omega⟩ ⟨by omega, by omega⟩
      rcases e3 with rfl | e3 | e3 <;> omega
  · rw [pt_no]
    intro a ha
    cases hh : has a (r.x + r.w) r.y
    · rfl
    · rw [has_iff] at hh
      obtain ⟨e1, e2, e3⟩ := h.bands.meet ha hr (y := r.y) ⟨by omega, by omega⟩ ⟨by omega, by omega⟩
      rcases e3 with rfl | e3 | e3 <;> omega
  · by_cases hb : ∃ a ∈ l, a.y = r.y + r.h
    · obtain ⟨a, ha, e⟩ := hb
      obtain ⟨x, hx⟩ := h.top a ha
      refine ⟨x, fun e' => hx ?_⟩
      rw [e, e', h.bands.line hr (by omega) x]
    · refine ⟨r.x, ?_⟩
      rw [hin r.x (by omega) (by omega)]
      intro e
      obtain ⟨a, ha, hh⟩ := pt_iff.1 e
      rw [has_iff] at hh
      rcases h.bands.two ha hr with rfl | h3 | h3
      · omega
      · rcases h3 with ⟨e1, e2, e3⟩ | h3
        · omega
        · omega
      · rcases h3 with ⟨e1, e2, e3⟩ | h3
        · omega
        · exact hb ⟨a, ha, by omega⟩

theorem Reg.mem {l : List Rc} (h : Reg l) {r : Rc} (m : Mark (pt l) r) : r ∈ l := by
  have m1 := m.w
  have m2 := m.h
  obtain ⟨a, ha, hh⟩ := pt_iff.1 (m.ins r.x (by omega) (by omega))
  rw [has_iff] at hh
  have n := h.mark ha
  have ey : a.y = r.y := by
    rcases Int.lt_or_le a.y r.y with h1 | h1
    · obtain ⟨x, hx⟩ := m.top
      exact absurd ((n.line (r.y - 1) (by omega) (by omega) x).trans (n.line r.y (by omega) (by omega) x).symm) hx
    · omega
  have ex : a.x = r.x := by
    rcases Int.lt_or_le a.x r.x with h1 | h1
    · have := n.ins (r.x - 1) (by omega) (by omega)
      rw [ey, m.left] at this
      cases this
    · omega
  have ew : a.w = r.w := by
    rcases Int.lt_trichotomy a.w r.w with h1 | h1 | h1
    · have := m.ins (a.x + a.w) (by omega) (by omega)
      rw [← ey, n.right] at this
      cases this
    · exact h1
    · have := n.ins (r.x + r.w) (by omega) (by omega)
      rw [ey, m.right] at this
      cases this
  have eh : a.h = r.h := by
    rcases Int.lt_trichotomy a.h r.h with h1 | h1 | h1
    · obtain ⟨x, hx⟩ := n.bot
      refine absurd ?_ hx
      rw [ey]
      exact m.line _ (by omega) (by omega) x
    · exact h1
    · obtain ⟨x, hx⟩ := m.bot
      refine absurd ?_ hx
      rw [← ey]
      exact n.line _ (by omega) (by omega) x
  obtain ⟨x, y, w, h'⟩ := a
  obtain ⟨x', y', w', h''⟩ := r
  simp only at ey ex ew eh
  subst ey ex ew eh
  exact ha

theorem aft_asymm {a b : Rc} (ka : Ck a) (kb : Ck b) (h : Aft a b) (h' : Aft b a) : False := by
  have := ka.h
  have := kb.h
  have := ka.w
  have := kb.w
  rcases h with ⟨_, _, _⟩ | _ <;> rcases h' with ⟨_, _, _⟩ | _ <;> omega

/-- Two lists in one order, of the same members, are one. -/
theorem order_eq {α : Type} {R : α → α → Prop} (l m : List α) (hl : l.Pairwise R) (hm : m.Pairwise R) (asy : ∀ a ∈ l, ∀ b ∈ l, R a b → R b a → False) (same : ∀ a, a ∈ l ↔ a ∈ m) : l = m := by
  induction l generalizing m with
  | nil =>
    cases m with
    | nil => rfl
    | cons b m => exact absurd ((same b).2 (by simp)) (by simp)
  | cons a l ih =>
    cases m with
    | nil => exact absurd ((same a).1 (by simp)) (by simp)
    | cons b m =>
      rw [List.pairwise_cons] at hl hm
      have e : a = b := by
        rcases List.mem_cons.1 ((same a).1 (by simp)) with h | h
        · exact h
        · rcases List.mem_cons.1 ((same b).2 (by simp)) with h' | h'
          · exact h'.symm
          · exact (asy a (by simp) b (by simp [h']) (hl.1 b h') (hm.1 a h)).elim
      subst e
      rw [ih m hl.2 hm.2 (fun x hx y hy => asy x (by simp [hx]) y (by simp [hy])) (fun x => ?_)]
      constructor
      · intro hx
        rcases List.mem_cons.1 ((same x).1 (by simp [hx])) with rfl | h
        · exact (asy x (by simp) x (by simp) (hl.1 x hx) (hl.1 x hx)).elim
        · exact h
      · intro hx
        rcases List.mem_cons.1 ((same x).2 (by simp [hx])) with rfl | h
        · exact (asy x (by simp) x (by simp) (hm.1 x hx) (hm.1 x hx)).elim
        · exact h

/-- A set of points has just one region. -/
theorem reg_eq {l m : List Rc} (hl : Reg l) (hm : Reg m) (h : ∀ x y, pt l x y = pt m x y) : l = m := by
  have e : pt l = pt m := funext fun x => funext fun y => h x y
  refine order_eq l m hl.aft hm.aft (fun a ha b hb => aft_asymm (hl.ck a ha) (hl.ck b hb)) (fun a => ⟨fun ha => hm.mem (e ▸ hl.mark ha), fun ha => hl.mem (e ▸ hm.mark ha)⟩)

/-- Whether a number is behind an odd number of the edges. -/
def par : List Int → Int → Bool
  | [], _ => false
  | e :: t, x => decide (e ≤ x) ^^ par t x

theorem par_below {l : List Int} {x : Int} (h : ∀ e ∈ l, x < e) : par l x = false := by
  induction l with
  | nil => rfl
  | cons e t ih =>
    have h1 := h e (by simp)
    rw [par, ih fun k hk => h k (by simp [hk]), decide_eq_false (by omega)]
    rfl
theorem par_above {l : List Int} {x : Int} (h : ∀ e ∈ l, e ≤ x) : par l x = decide (l.length % 2 = 1) := by
  induction l with
  | nil => rfl
  | cons e t ih =>
    rw [par, ih fun k hk => h k (by simp [hk]), decide_eq_true (h e (by simp)), List.length_cons, Bool.eq_iff_iff]
    simp
    omega
theorem par_append (a b : List Int) (x : Int) : par (a ++ b) x = (par a x ^^ par b x) := by
  induction a with
  | nil => simp [par]
  | cons e t ih => rw [List.cons_append, par, par, ih, Bool.xor_assoc]

/-- Edges that rise are told by what is behind them. -/
theorem par_eq {l m : List Int} (hl : l.Pairwise (· < ·)) (hm : m.Pairwise (· < ·)) (h : ∀ x, par l x = par m x) : l = m := by
  induction l generalizing m with
  | nil =>
    cases m with
    | nil => rfl
    | cons b m =>
      rw [List.pairwise_cons] at hm
      have := h b
      rw [par, par, par_below hm.1] at this
      simp at this
  | cons a l ih =>
    rw [List.pairwise_cons] at hl
    cases m with
    | nil =>
      have := h a
      rw [par, par, par_below hl.1] at this
      simp at this
    | cons b m =>
      rw [List.pairwise_cons] at hm
      have e : a = b := by
        rcases Int.lt_trichotomy a b with h1 | h1 | h1
        · have := h a
          rw [par, par_below hl.1, par_below (l := b :: m) (fun k hk => by
            rcases List.mem_cons.1 hk with rfl | hk
            · exact h1
            · have := hm.1 k hk; omega)] at this
          simp at this
        · exact h1
        · have := h b
          rw [par_below (l := a :: l) (fun k hk => by
            rcases List.mem_cons.1 hk with rfl | hk
            · exact h1
            · have := hl.1 k hk; omega), par, par_below hm.1] at this
          simp at this
      subst e
      rw [ih hl.2 hm.2 fun x => ?_]
      have := h x
      rw [par, par] at this
      exact Bool.xor_right_inj.1 this

/-- The rectangles of a line's edges, from y on, h high. -/
def prs (y h : Int) : List Int → List Rc
  | a :: b :: t => ⟨a, y, b - a, h⟩ :: prs y h t
  | _ => []

theorem prs_mem {y h : Int} {r : Rc} : ∀ {e : List Int}, e.Pairwise (· < ·) → r ∈ prs y h e → r.y = y ∧ r.h = h ∧ 1 ≤ r.w ∧ r.x ∈ e ∧ r.x + r.w ∈ e
  | [], _, hr => by simp [prs] at hr
  | [_], _, hr => by simp [prs] at hr
  | a :: b :: t, hp, hr => by
    rw [List.pairwise_cons, List.pairwise_cons] at hp
    rw [prs] at hr
    rcases List.mem_cons.1 hr with rfl | hr
    · have := hp.1 b (by simp)
      exact ⟨rfl, rfl, by simp only; omega, by simp, by simp only; rw [show a + (b - a) = b by omega]; simp⟩
    · obtain ⟨h1, h2, h3, h4, h5⟩ := prs_mem hp.2.2 hr
      exact ⟨h1, h2, h3, by simp [h4], by simp [h5]⟩

theorem prs_aft {y h : Int} : ∀ {e : List Int}, e.Pairwise (· < ·) → (prs y h e).Pairwise Aft
  | [], _ => by simp [prs]
  | [_], _ => by simp [prs]
  | a :: b :: t, hp => by
    rw [List.pairwise_cons, List.pairwise_cons] at hp
    rw [prs, List.pairwise_cons]
    refine ⟨fun r hr => ?_, prs_aft hp.2.2⟩
    obtain ⟨h1, h2, h3, h4, h5⟩ := prs_mem hp.2.2 hr
    have := hp.2.1 _ h4
    exact .inl ⟨h1, h2, by simp only; omega⟩

theorem pt_cons (r : Rc) (l : List Rc) (x y : Int) : pt (r :: l) x y = (has r x y || pt l x y) := by simp [pt]
theorem pt_append (a b : List Rc) (x y : Int) : pt (a ++ b) x y = (pt a x y || pt b x y) := by simp [pt]
theorem pt_nil (x y : Int) : pt [] x y = false := rfl

theorem prs_pt {y h : Int} (hh : 1 ≤ h) (x z : Int) : ∀ {e : List Int}, e.Pairwise (· < ·) → e.length % 2 = 0 → pt (prs y h e) x z = (decide (y ≤ z) && decide (z < y + h) && par e x)
  | [], _, _ => by simp [prs, pt, par]
  | [_], _, h2 => by simp at h2
  | a :: b :: t, hp, h2 => by
    rw [List.pairwise_cons, List.pairwise_cons] at hp
    rw [prs, pt_cons, prs_pt hh x z hp.2.2 (by simpa [Nat.add_assoc] using h2)]
    have h1 := hp.1 b (by simp)
    rw [par, par]
    by_cases hz : y ≤ z ∧ z < y + h
    · rw [decide_eq_true hz.1, decide_eq_true hz.2, Bool.true_and, Bool.true_and, Bool.true_and]
      by_cases ha : a ≤ x
      · by_cases hb : b ≤ x
        · have : has ⟨a, y, b - a, h⟩ x z = false := by
            cases hq : has ⟨a, y, b - a, h⟩ x z
            · rfl
            · rw [has_iff] at hq; simp only at hq; omega
          rw [this, decide_eq_true ha, decide_eq_true hb]
          cases par t x <;> rfl
        · have : has ⟨a, y, b - a, h⟩ x z = true := has_iff.2 ⟨by simp only; omega, by simp only; omega, by simp only; omega, by simp only; omega, by simp only; omega, by simp only; omega⟩
          rw [this, decide_eq_true ha, decide_eq_false hb, par_below fun k hk => by have := hp.2.1 k hk; omega]
          rfl
      · have : has ⟨a, y, b - a, h⟩ x z = false := by
          cases hq : has ⟨a, y, b - a, h⟩ x z
          · rfl
          · rw [has_iff] at hq; simp only at hq; omega
        rw [this, decide_eq_false ha, decide_eq_false (by omega), par_below fun k hk => by have := hp.2.1 k hk; omega]
        rfl
    · have : has ⟨a, y, b - a, h⟩ x z = false := by
        cases hq : has ⟨a, y, b - a, h⟩ x z
        · rfl
        · rw [has_iff] at hq; simp only at hq; omega
      rw [this]
      have : (decide (y ≤ z) && decide (z < y + h)) = false := by
        rw [← Bool.not_eq_true, Bool.and_eq_true, decide_eq_true_eq, decide_eq_true_eq]
        exact hz
      rw [this]
      rfl

/-- The lines' rectangles: since y0 the edges are e. -/
def fin (E : Int → List Int) (y0 : Int) (e : List Int) : List Int → List Rc
  | [] => []
  | y :: t => if E y = e then fin E y0 e t else prs y0 (y - y0) e ++ fin E y (E y) t

/-- The edges turn at these lines alone; from the last one on there are none. -/
def Turns (E : Int → List Int) (y0 : Int) (e : List Int) : List Int → Prop
  | [] => ∀ z, y0 ≤ z → E z = []
  | y :: t => y0 < y ∧ (∀ z, y0 ≤ z → z < y → E z = e) ∧ Turns E y (E y) t

theorem Turns.on {E : Int → List Int} {y0 y : Int} {e : List Int} {t : List Int} (h0 : y0 < y) (hz : ∀ z, y0 ≤ z → z < y → E z = e) (he : E y = e) (h : Turns E y (E y) t) : Turns E y0 e t := by
  cases t with
  | nil =>
    intro z h1
    rcases Int.lt_or_le z y with h2 | h2
    · rw [hz z h1 h2, ← he]; exact h y (Int.le_refl _)
    · exact h z h2
  | cons y' t =>
    obtain ⟨h1, h2, h3⟩ := h
    refine ⟨by omega, fun z h4 h5 => ?_, h3⟩
    rcases Int.lt_or_le z y with h6 | h6
    · exact hz z h4 h6
    · rw [h2 z h6 h5, he]

structure Edges (E : Int → List Int) : Prop where
  rise : ∀ z, (E z).Pairwise (· < ·)
  even : ∀ z, (E z).length % 2 = 0

theorem fin_pt {E : Int → List Int} (hE : Edges E) (x z : Int) : ∀ (ys : List Int) (y0 : Int) (e : List Int), e.Pairwise (· < ·) → e.length % 2 = 0 → Turns E y0 e ys → pt (fin E y0 e ys) x z = (decide (y0 ≤ z) && par (E z) x)
  | [], y0, e, _, _, h => by
    rw [fin, pt_nil]
    by_cases h1 : y0 ≤ z
    · rw [h z h1, par, Bool.and_false]
    · rw [decide_eq_false h1]; rfl
  | y :: t, y0, e, hr, he, h => by
    obtain ⟨h1, h2, h3⟩ := h
    rw [fin]
    by_cases hh : E y = e
    · rw [if_pos hh]
      exact fin_pt hE x z t y0 e hr he (Turns.on h1 h2 hh h3)
    · rw [if_neg hh, pt_append, prs_pt (by omega) x z hr he, fin_pt hE x z t y (E y) (hE.rise y) (hE.even y) h3]
      by_cases h4 : y0 ≤ z
      · by_cases h5 : z < y
        · rw [h2 z h4 h5, decide_eq_true h4, decide_eq_true (show z < y0 + (y - y0) by omega), decide_eq_false (show ¬ y ≤ z by omega)]
          simp
        · rw [decide_eq_true h4, decide_eq_false (show ¬ z < y0 + (y - y0) by omega), decide_eq_true (show y ≤ z by omega)]
          simp
      · rw [decide_eq_false h4, decide_eq_false (show ¬ y ≤ z by omega)]
        simp

theorem Turns.ends {E : Int → List Int} : ∀ {ys : List Int} {y0 : Int} {e : List Int}, Turns E y0 e ys → ∀ y ∈ ys, y0 < y
  | [], _, _, _, y, hy => by cases hy
  | a :: t, y0, e, h, y, hy => by
    obtain ⟨h1, h2, h3⟩ := h
    rcases List.mem_cons.1 hy with rfl | hy
    · exact h1
    · have := Turns.ends h3 y hy; omega

theorem fin_mem {E : Int → List Int} (hE : Edges E) {r : Rc} : ∀ (ys : List Int) (y0 : Int) (e : List Int), e.Pairwise (· < ·) → E y0 = e → Turns E y0 e ys → r ∈ fin E y0 e ys →
    y0 ≤ r.y ∧ 1 ≤ r.h ∧ 1 ≤ r.w ∧ r.x ∈ E r.y ∧ r.x + r.w ∈ E r.y ∧ (r.y = y0 ∨ (r.y ∈ ys ∧ E (r.y - 1) ≠ E r.y)) ∧ r.y + r.h ∈ ys
  | [], _, _, _, _, _, hr => by rw [fin] at hr; cases hr
  | y :: t, y0, e, hp, he, h, hr => by
    obtain ⟨h1, h2, h3⟩ := h
    rw [fin] at hr
    by_cases hh : E y = e
    · rw [if_pos hh] at hr
      obtain ⟨g1, g2, g3, g4, g5, g6, g7⟩ := fin_mem hE t y0 e hp he (Turns.on h1 h2 hh h3) hr
      refine ⟨g1, g2, g3, g4, g5, ?_, by simp [g7]⟩
      rcases g6 with g6 | ⟨g6, g8⟩
      · exact .inl g6
      · exact .inr ⟨by simp [g6], g8⟩
    · rw [if_neg hh] at hr
      rcases List.mem_append.1 hr with hr | hr
      · obtain ⟨g1, g2, g3, g4, g5⟩ := prs_mem hp hr
        rw [g1, g2, he]
        exact ⟨Int.le_refl _, by omega, g3, g4, g5, .inl rfl, by rw [show y0 + (y - y0) = y by omega]; simp⟩
      · obtain ⟨g1, g2, g3, g4, g5, g6, g7⟩ := fin_mem hE t y (E y) (hE.rise y) rfl h3 hr
        refine ⟨by omega, g2, g3, g4, g5, .inr ?_, by simp [g7]⟩
        rcases g6 with g6 | ⟨g6, g8⟩
        · refine ⟨by simp [g6], ?_⟩
          rw [g6, h2 (y - 1) (by omega) (by omega)]
          exact fun e' => hh e'.symm
        · exact ⟨by simp [g6], g8⟩

theorem fin_aft {E : Int → List Int} (hE : Edges E) : ∀ (ys : List Int) (y0 : Int) (e : List Int), e.Pairwise (· < ·) → E y0 = e → Turns E y0 e ys → (fin E y0 e ys).Pairwise Aft
  | [], _, _, _, _, _ => by rw [fin]; exact List.Pairwise.nil
  | y :: t, y0, e, hp, he, h => by
    obtain ⟨h1, h2, h3⟩ := h
    rw [fin]
    by_cases hh : E y = e
    · rw [if_pos hh]
      exact fin_aft hE t y0 e hp he (Turns.on h1 h2 hh h3)
    · rw [if_neg hh, List.pairwise_append]
      refine ⟨prs_aft hp, fin_aft hE t y (E y) (hE.rise y) rfl h3, fun a ha b hb => ?_⟩
      obtain ⟨g1, g2, g3, g4, g5⟩ := prs_mem hp ha
      have := (fin_mem hE t y (E y) (hE.rise y) rfl h3 hb).1
      exact .inr (by omega)

/-- Lines' edges from nothing on: a region. -/
theorem fin_reg {E : Int → List Int} (hE : Edges E) {ys : List Int} {y0 : Int} (h0 : ∀ z, z ≤ y0 → E z = []) (hT : Turns E y0 [] ys) (hx : ∀ z, ∀ k ∈ E z, -16777216 ≤ k ∧ k ≤ 16777216) (hy : ∀ y ∈ ys, -16777216 ≤ y ∧ y ≤ 16777216) :
    Reg (fin E y0 [] ys) ∧ (∀ x z, pt (fin E y0 [] ys) x z = par (E z) x) ∧ (∀ r ∈ fin E y0 [] ys, r.x ∈ E r.y ∧ r.x + r.w ∈ E r.y ∧ r.y ∈ ys ∧ r.y + r.h ∈ ys) := by
  have hm : ∀ r ∈ fin E y0 [] ys, _ := fun r hr => fin_mem hE (r := r) ys y0 [] (by simp) (h0 y0 (Int.le_refl _)) hT hr
  have hp : ∀ x z, pt (fin E y0 [] ys) x z = par (E z) x := fun x z => by
    rw [fin_pt hE x z ys y0 [] (by simp) rfl hT]
    by_cases h : y0 ≤ z
    · rw [decide_eq_true h, Bool.true_and]
    · rw [decide_eq_false h, h0 z (by omega)]; rfl
  have hn : ∀ r ∈ fin E y0 [] ys, r.y ∈ ys ∧ E (r.y - 1) ≠ E r.y := fun r hr => by
    obtain ⟨g1, g2, g3, g4, g5, g6, g7⟩ := hm r hr
    rcases g6 with g6 | g6
    · rw [h0 r.y (by omega)] at g4; cases g4
    · exact g6
  refine ⟨⟨fun r hr => ?_, fin_aft hE ys y0 [] (by simp) (h0 y0 (Int.le_refl _)) hT, fun r hr => ?_⟩, hp, fun r hr => ?_⟩
  · obtain ⟨g1, g2, g3, g4, g5, g6, g7⟩ := hm r hr
    have a1 := hx _ _ g4
    have a2 := hx _ _ g5
    have a3 := hy _ g7
    have a4 := hy _ (hn r hr).1
    exact ⟨g3, g2, a1.1, a4.1, a2.2, a3.2⟩
  · refine Classical.byContradiction fun hc => (hn r hr).2 (par_eq (hE.rise _) (hE.rise _) fun x => ?_)
    rw [← hp, ← hp]
    exact Classical.byContradiction fun h => hc ⟨x, h⟩
  · obtain ⟨g1, g2, g3, g4, g5, g6, g7⟩ := hm r hr
    exact ⟨g4, g5, (hn r hr).1, g7⟩

theorem fin_start (E : Int → List Int) (y0 y1 : Int) : ∀ ys, fin E y0 [] ys = fin E y1 [] ys
  | [] => rfl
  | y :: t => by
    rw [fin, fin]
    split
    · exact fin_start E y0 y1 t
    · rfl
theorem fin_congr {E E' : Int → List Int} (h : ∀ z, E z = E' z) (y0 : Int) (e : List Int) (ys : List Int) : fin E y0 e ys = fin E' y0 e ys := by rw [funext h]

end Go.Proofs.YtmiapccngeafkaaDoor

/- What comes of two lists of rectangles, by the edges of all. No program. -/
namespace Go.Proofs.YtmiapccngeafkaaDoor
open Go Go.RowKit

/-- A number put into numbers that rise. -/
def addE : List Int → Int → List Int
  | [], v => [v]
  | k :: t, v => if v < k then v :: k :: t else if v = k then k :: t else k :: addE t v

theorem addE_mem {v : Int} : ∀ {l : List Int} {x : Int}, x ∈ addE l v ↔ x = v ∨ x ∈ l
  | [], x => by simp [addE]
  | k :: t, x => by
    rw [addE]
    split
    · simp
    · split
      · rename_i h; subst h; simp
      · rw [List.mem_cons, addE_mem, List.mem_cons]
        constructor
        · rintro (h | h | h) <;> simp [h]
        · rintro (h | h | h) <;> simp [h]

theorem addE_rise {v : Int} : ∀ {l : List Int}, l.Pairwise (· < ·) → (addE l v).Pairwise (· < ·)
  | [], _ => by simp [addE]
  | k :: t, h => by
    rw [addE]
    split
    · rename_i h1
      rw [List.pairwise_cons]
      refine ⟨fun x hx => ?_, h⟩
      rcases List.mem_cons.1 hx with rfl | hx
      · exact h1
      · have := (List.pairwise_cons.1 h).1 x hx; omega
    · split
      · exact h
      · rw [List.pairwise_cons] at h ⊢
        refine ⟨fun x hx => ?_, addE_rise h.2⟩
        rcases addE_mem.1 hx with rfl | hx
        · omega
        · exact h.1 x hx

theorem addE_length {v : Int} : ∀ {l : List Int}, (addE l v).length ≤ l.length + 1
  | [] => by simp [addE]
  | k :: t => by
    rw [addE]
    split
    · simp
    · split
      · simp
      · have := addE_length (v := v) (l := t); simp only [List.length_cons]; omega

/-- The edges across, and down. -/
def xsOf (l : List Rc) : List Int := l.foldl (fun s r => addE (addE s r.x) (r.x + r.w)) []
def ysOf (l : List Rc) : List Int := l.foldl (fun s r => addE (addE s r.y) (r.y + r.h)) []

theorem foldE {f g : Rc → Int} (l : List Rc) : ∀ (s : List Int), s.Pairwise (· < ·) → ((l.foldl (fun s r => addE (addE s (f r)) (g r)) s).Pairwise (· < ·) ∧ (∀ x, x ∈ l.foldl (fun s r => addE (addE s (f r)) (g r)) s ↔ x ∈ s ∨ ∃ r ∈ l, x = f r ∨ x = g r) ∧ (l.foldl (fun s r => addE (addE s (f r)) (g r)) s).length ≤ s.length + 2 * l.length) := by
  induction l with
  | nil => intro s h; exact ⟨h, fun x => by simp, by simp⟩
  | cons a l ih =>
    intro s h
    rw [List.foldl_cons]
    obtain ⟨h1, h2, h3⟩ := ih _ (addE_rise (v := g a) (addE_rise (v := f a) h))
    refine ⟨h1, fun x => ?_, ?_⟩
    · rw [h2 x, addE_mem, addE_mem]
      constructor
      · rintro ((h | h | h) | ⟨r, hr, h⟩)
        · exact .inr ⟨a, by simp, .inr h⟩
        · exact .inr ⟨a, by simp, .inl h⟩
        · exact .inl h
        · exact .inr ⟨r, by simp [hr], h⟩
      · rintro (h | ⟨r, hr, h⟩)
        · exact .inl (.inr (.inr h))
        · rcases List.mem_cons.1 hr with rfl | hr
          · rcases h with h | h
            · exact .inl (.inr (.inl h))
            · exact .inl (.inl h)
          · exact .inr ⟨r, hr, h⟩
    · have e1 := addE_length (l := s) (v := f a)
      have e2 := addE_length (l := addE s (f a)) (v := g a)
      rw [List.length_cons]
      omega

theorem xs_rise (l : List Rc) : (xsOf l).Pairwise (· < ·) := (foldE l [] (by simp)).1
theorem ys_rise (l : List Rc) : (ysOf l).Pairwise (· < ·) := (foldE l [] (by simp)).1
theorem xs_mem {l : List Rc} {x : Int} : x ∈ xsOf l ↔ ∃ r ∈ l, x = r.x ∨ x = r.x + r.w := by
  have := (foldE (f := fun r => r.x) (g := fun r => r.x + r.w) l [] (by simp)).2.1 x
  simpa [xsOf] using this
theorem ys_mem {l : List Rc} {y : Int} : y ∈ ysOf l ↔ ∃ r ∈ l, y = r.y ∨ y = r.y + r.h := by
  have := (foldE (f := fun r => r.y) (g := fun r => r.y + r.h) l [] (by simp)).2.1 y
  simpa [ysOf] using this
theorem xs_length (l : List Rc) : (xsOf l).length ≤ 2 * l.length := by
  have := (foldE (f := fun r => r.x) (g := fun r => r.x + r.w) l [] (by simp)).2.2
  simpa [xsOf] using this
theorem ys_length (l : List Rc) : (ysOf l).length ≤ 2 * l.length := by
  have := (foldE (f := fun r => r.y) (g := fun r => r.y + r.h) l [] (by simp)).2.2
  simpa [ysOf] using this

/-- Where a truth turns. -/
def chg (F : Int → Bool) (p : Bool) : List Int → List Int
  | [] => []
  | x :: t => if F x = p then chg F p t else x :: chg F (F x) t

theorem chg_sub (F : Int → Bool) : ∀ (l : List Int) (p : Bool), (chg F p l).Sublist l
  | [], _ => by simp [chg]
  | x :: t, p => by
    rw [chg]
    split
    · exact (chg_sub F t p).cons x
    · exact (chg_sub F t (F x)).cons_cons x

/-- A truth that turns at these alone. -/
theorem chg_par {F : Int → Bool} {X : List Int} (hF : ∀ z z', z ≤ z' → (∀ x ∈ X, ¬ (z < x ∧ x ≤ z')) → F z = F z') : ∀ (xs : List Int) (x0 : Int), xs.Pairwise (· < ·) → (∀ x ∈ xs, x0 < x) → (∀ x ∈ X, x ≤ x0 ∨ x ∈ xs) → ∀ z, x0 ≤ z → par (chg F (F x0) xs) z = (F x0 ^^ F z)
  | [], x0, _, _, hX, z, hz => by
    rw [chg, par, hF x0 z hz fun x hx h => by
      rcases hX x hx with h' | h'
      · omega
      · cases h']
    cases F z <;> rfl
  | x :: t, x0, hp, h0, hX, z, hz => by
    have hp' := List.pairwise_cons.1 hp
    rcases Int.lt_or_le z x with h | h
    · rw [par_below fun k hk => by
        have hk' := (chg_sub F (x :: t) (F x0)).mem hk
        rcases List.mem_cons.1 hk' with rfl | hk'
        · exact h
        · have := hp'.1 k hk'; omega]
      rw [hF x0 z hz fun k hk hh => by
        rcases hX k hk with h' | h'
        · omega
        · rcases List.mem_cons.1 h' with rfl | h'
          · omega
          · have := hp'.1 k h'; omega]
      cases F z <;> rfl
    · have ih := chg_par hF t x hp'.2 hp'.1 (fun k hk => by
        rcases hX k hk with h' | h'
        · have := h0 x (by simp); exact .inl (by omega)
        · rcases List.mem_cons.1 h' with rfl | h'
          · exact .inl (Int.le_refl _)
          · exact .inr h') z h
      rw [chg]
      split
      · rename_i e
        rw [e] at ih
        exact ih
      · rename_i e
        rw [par, ih, decide_eq_true h]
        revert e
        cases F x <;> cases F x0 <;> cases F z <;> simp

/-- The edges on line y of what is in. -/
def lin (f : Bool → Bool → Bool) (a b : List Rc) (y : Int) : List Int := chg (fun x => f (pt a x y) (pt b x y)) false (xsOf (a ++ b))

/-- What comes of both. -/
def mk (f : Bool → Bool → Bool) (a b : List Rc) : List Rc := fin (lin f a b) (-16777217) [] (ysOf (a ++ b))

theorem pt_turn {l X : List Rc} (hs : ∀ r ∈ l, r ∈ X) (y : Int) {z z' : Int} (hz : z ≤ z') (h : ∀ x ∈ xsOf X, ¬ (z < x ∧ x ≤ z')) : pt l z y = pt l z' y := by
  rw [Bool.eq_iff_iff, pt_iff, pt_iff]
  have key : ∀ r ∈ l, has r z y = has r z' y := fun r hr => by
    have h1 := h r.x (xs_mem.2 ⟨r, hs r hr, .inl rfl⟩)
    have h2 := h (r.x + r.w) (xs_mem.2 ⟨r, hs r hr, .inr rfl⟩)
    rw [Bool.eq_iff_iff, has_iff, has_iff]
    omega
  exact ⟨fun ⟨r, hr, hh⟩ => ⟨r, hr, by rw [← key r hr]; exact hh⟩, fun ⟨r, hr, hh⟩ => ⟨r, hr, by rw [key r hr]; exact hh⟩⟩

theorem pt_turnY {l X : List Rc} (hs : ∀ r ∈ l, r ∈ X) (x : Int) {z z' : Int} (hz : z ≤ z') (h : ∀ y ∈ ysOf X, ¬ (z < y ∧ y ≤ z')) : pt l x z = pt l x z' := by
  rw [Bool.eq_iff_iff, pt_iff, pt_iff]
  have key : ∀ r ∈ l, has r x z = has r x z' := fun r hr => by
    have h1 := h r.y (ys_mem.2 ⟨r, hs r hr, .inl rfl⟩)
    have h2 := h (r.y + r.h) (ys_mem.2 ⟨r, hs r hr, .inr rfl⟩)
    rw [Bool.eq_iff_iff, has_iff, has_iff]
    omega
  exact ⟨fun ⟨r, hr, hh⟩ => ⟨r, hr, by rw [← key r hr]; exact hh⟩, fun ⟨r, hr, hh⟩ => ⟨r, hr, by rw [key r hr]; exact hh⟩⟩

theorem pt_out {l : List Rc} (hk : ∀ r ∈ l, Ck r) {x y : Int} (h : x < -16777216 ∨ 16777216 ≤ x ∨ y < -16777216 ∨ 16777216 ≤ y) : pt l x y = false := by
  rw [pt_no]
  intro r hr
  have k := hk r hr
  obtain ⟨k1, k2, k3, k4, k5, k6⟩ := k
  cases hh : has r x y
  · rfl
  · rw [has_iff] at hh; omega

section
variable {f : Bool → Bool → Bool} {a b : List Rc}

theorem lin_par (hf : f false false = false) (ha : ∀ r ∈ a, Ck r) (hb : ∀ r ∈ b, Ck r) (y x : Int) : par (lin f a b y) x = f (pt a x y) (pt b x y) := by
  have hF : ∀ z z', z ≤ z' → (∀ x ∈ xsOf (a ++ b), ¬ (z < x ∧ x ≤ z')) → (fun x => f (pt a x y) (pt b x y)) z = (fun x => f (pt a x y) (pt b x y)) z' := fun z z' hz h => by
    show f (pt a z y) (pt b z y) = f (pt a z' y) (pt b z' y)
    rw [pt_turn (l := a) (X := a ++ b) (fun r hr => by simp [hr]) y hz h, pt_turn (l := b) (X := a ++ b) (fun r hr => by simp [hr]) y hz h]
  have h0 : ∀ z, z < -16777216 → (fun x => f (pt a x y) (pt b x y)) z = false := fun z hz => by
    show f (pt a z y) (pt b z y) = false
    rw [pt_out ha (.inl hz), pt_out hb (.inl hz), hf]
  have hx : ∀ x ∈ xsOf (a ++ b), -16777217 < x := fun x hx => by
    obtain ⟨r, hr, h⟩ := xs_mem.1 hx
    have k : Ck r := by
      rcases List.mem_append.1 hr with hr | hr
      · exact ha r hr
      · exact hb r hr
    obtain ⟨k1, k2, k3, k4, k5, k6⟩ := k
    omega
  rcases Int.lt_or_le x (-16777217) with h | h
  · rw [par_below fun k hk => by have := hx k ((chg_sub _ _ _).mem hk); omega]
    exact (h0 x (by omega)).symm
  · have := chg_par hF (xsOf (a ++ b)) (-16777217) (xs_rise _) hx (fun x hx => .inr hx) x h
    have e0 : f (pt a (-16777217) y) (pt b (-16777217) y) = false := h0 (-16777217) (by omega)
    rw [e0] at this
    rw [lin, this]
    simp

theorem lin_mem {y x : Int} (h : x ∈ lin f a b y) : x ∈ xsOf (a ++ b) := (chg_sub _ _ _).mem h
theorem xs_in (ha : ∀ r ∈ a, Ck r) {x : Int} (h : x ∈ xsOf a) : -16777216 ≤ x ∧ x ≤ 16777216 := by
  obtain ⟨r, hr, h⟩ := xs_mem.1 h
  obtain ⟨k1, k2, k3, k4, k5, k6⟩ := ha r hr
  omega
theorem ys_in (ha : ∀ r ∈ a, Ck r) {x : Int} (h : x ∈ ysOf a) : -16777216 ≤ x ∧ x ≤ 16777216 := by
  obtain ⟨r, hr, h⟩ := ys_mem.1 h
  obtain ⟨k1, k2, k3, k4, k5, k6⟩ := ha r hr
  omega
theorem ck_both (ha : ∀ r ∈ a, Ck r) (hb : ∀ r ∈ b, Ck r) : ∀ r ∈ a ++ b, Ck r := fun r hr => by
  rcases List.mem_append.1 hr with hr | hr
  · exact ha r hr
  · exact hb r hr

theorem lin_edges (hf : f false false = false) (ha : ∀ r ∈ a, Ck r) (hb : ∀ r ∈ b, Ck r) : Edges (lin f a b) := by
  refine ⟨fun z => (xs_rise (a ++ b)).sublist (chg_sub _ _ _), fun z => ?_⟩
  have h1 := lin_par hf ha hb z 16777216
  rw [pt_out ha (.inr (.inl (by omega))), pt_out hb (.inr (.inl (by omega))), hf, par_above fun k hk => (xs_in (ck_both ha hb) (lin_mem hk)).2] at h1
  have := of_decide_eq_false h1
  omega

theorem lin_none (hf : f false false = false) (ha : ∀ r ∈ a, Ck r) (hb : ∀ r ∈ b, Ck r) {z : Int} (hz : ∀ x, pt a x z = false ∧ pt b x z = false) : lin f a b z = [] :=
  par_eq ((lin_edges hf ha hb).rise z) (by simp) fun x => by rw [lin_par hf ha hb, (hz x).1, (hz x).2, hf]; rfl

theorem turns_of {E : Int → List Int} {Y : List Int} (hc : ∀ z z', z ≤ z' → (∀ y ∈ Y, ¬ (z < y ∧ y ≤ z')) → E z = E z') (he : ∀ z, (∀ y ∈ Y, y ≤ z) → E z = []) : ∀ (ys : List Int) (y0 : Int), ys.Pairwise (· < ·) → (∀ y ∈ ys, y0 < y) → (∀ y ∈ Y, y ≤ y0 ∨ y ∈ ys) → Turns E y0 (E y0) ys
  | [], y0, _, _, h => fun z hz => he z fun y hy => by
    rcases h y hy with h | h
    · omega
    · cases h
  | a :: t, y0, hp, h0, h => by
    have hp' := List.pairwise_cons.1 hp
    have ha := h0 a (by simp)
    refine ⟨ha, fun z h1 h2 => (hc y0 z h1 fun y hy hh => ?_).symm, turns_of hc he t a hp'.2 hp'.1 fun y hy => ?_⟩
    · rcases h y hy with h' | h'
      · omega
      · rcases List.mem_cons.1 h' with rfl | h'
        · omega
        · have := hp'.1 y h'; omega
    · rcases h y hy with h' | h'
      · exact .inl (by omega)
      · rcases List.mem_cons.1 h' with rfl | h'
        · exact .inl (Int.le_refl _)
        · exact .inr h'

theorem lin_turns (hf : f false false = false) (ha : ∀ r ∈ a, Ck r) (hb : ∀ r ∈ b, Ck r) : Turns (lin f a b) (-16777217) [] (ysOf (a ++ b)) := by
  have e0 : lin f a b (-16777217) = [] := lin_none hf ha hb fun x => ⟨pt_out ha (by omega), pt_out hb (by omega)⟩
  have := turns_of (E := lin f a b) (Y := ysOf (a ++ b)) (fun z z' hz h => ?_) (fun z h => ?_) (ysOf (a ++ b)) (-16777217) (ys_rise _) (fun y hy => by have := (ys_in (ck_both ha hb) hy).1; omega) (fun y hy => .inr hy)
  · rw [e0] at this
    exact this
  · refine par_eq ((lin_edges hf ha hb).rise z) ((lin_edges hf ha hb).rise z') fun x => ?_
    rw [lin_par hf ha hb, lin_par hf ha hb, pt_turnY (l := a) (X := a ++ b) (fun r hr => by simp [hr]) x hz h, pt_turnY (l := b) (X := a ++ b) (fun r hr => by simp [hr]) x hz h]
  · have key : ∀ l : List Rc, (∀ r ∈ l, r ∈ a ++ b) → ∀ x, pt l x z = false := fun l hl x => by
      rw [pt_no]
      intro r hr
      have := h _ (ys_mem.2 ⟨r, hl r hr, .inr rfl⟩)
      cases hh : has r x z
      · rfl
      · rw [has_iff] at hh; omega
    exact lin_none hf ha hb fun x => ⟨key a (fun r hr => by simp [hr]) x, key b (fun r hr => by simp [hr]) x⟩

/-- All edges among these. -/
structure Grid (X Y : List Int) (l : List Rc) : Prop where
  all : ∀ r ∈ l, r.x ∈ X ∧ r.x + r.w ∈ X ∧ r.y ∈ Y ∧ r.y + r.h ∈ Y

theorem mk_all (hf : f false false = false) (ha : ∀ r ∈ a, Ck r) (hb : ∀ r ∈ b, Ck r) : Reg (mk f a b) ∧ (∀ x y, pt (mk f a b) x y = f (pt a x y) (pt b x y)) ∧ Grid (xsOf (a ++ b)) (ysOf (a ++ b)) (mk f a b) := by
  obtain ⟨h1, h2, h3⟩ := fin_reg (lin_edges hf ha hb) (ys := ysOf (a ++ b)) (y0 := -16777217) (fun z hz => lin_none hf ha hb fun x => ⟨pt_out ha (by omega), pt_out hb (by omega)⟩) (lin_turns hf ha hb) (fun z k hk => xs_in (ck_both ha hb) (lin_mem hk)) (fun y hy => ys_in (ck_both ha hb) hy)
  exact ⟨h1, fun x y => by rw [mk, h2, lin_par hf ha hb], ⟨fun r hr => by
    obtain ⟨g1, g2, g3, g4⟩ := h3 r hr
    exact ⟨lin_mem g1, lin_mem g2, g3, g4⟩⟩⟩
end

end Go.Proofs.YtmiapccngeafkaaDoor

/- The edges on a line, and two lines' edges as one. No program. -/
namespace Go.Proofs.YtmiapccngeafkaaDoor
open Go Go.RowKit

/-- A line goes through it. -/
def lies (y : Int) (r : Rc) : Bool := decide (r.y ≤ y) && decide (y < r.y + r.h)
def spans (l : List Rc) : List Int := l.flatMap fun r => [r.x, r.x + r.w]
/-- The edges on a line. -/
def rowE (l : List Rc) (y : Int) : List Int := spans (l.filter (lies y))

theorem lies_iff {y : Int} {r : Rc} : lies y r = true ↔ r.y ≤ y ∧ y < r.y + r.h := by simp [lies]
theorem spans_cons (r : Rc) (l : List Rc) : spans (r :: l) = r.x :: (r.x + r.w) :: spans l := rfl
theorem spans_mem {l : List Rc} {x : Int} : x ∈ spans l ↔ ∃ r ∈ l, x = r.x ∨ x = r.x + r.w := by simp [spans]
theorem spans_length (l : List Rc) : (spans l).length = 2 * l.length := by
  induction l with
  | nil => rfl
  | cons r l ih => rw [spans_cons, List.length_cons, List.length_cons, ih, List.length_cons]; omega

theorem spans_rise {l : List Rc} (hp : l.Pairwise fun a b => a.x + a.w < b.x) (hw : ∀ r ∈ l, 1 ≤ r.w) : (spans l).Pairwise (· < ·) := by
  induction l with
  | nil => simp [spans]
  | cons r l ih =>
    rw [List.pairwise_cons] at hp
    have h1 := hw r (by simp)
    have key : ∀ x ∈ spans l, r.x + r.w < x := fun x hx => by
      obtain ⟨a, ha, h⟩ := spans_mem.1 hx
      have := hp.1 a ha
      have := hw a (by simp [ha])
      omega
    rw [spans_cons, List.pairwise_cons, List.pairwise_cons]
    refine ⟨fun x hx => ?_, key, ih hp.2 fun a ha => hw a (by simp [ha])⟩
    rcases List.mem_cons.1 hx with rfl | hx
    · omega
    · have := key x hx; omega

theorem spans_par {l : List Rc} (hp : l.Pairwise fun a b => a.x + a.w < b.x) (hw : ∀ r ∈ l, 1 ≤ r.w) (x : Int) : par (spans l) x = l.any fun r => decide (r.x ≤ x) && decide (x < r.x + r.w) := by
  induction l with
  | nil => rfl
  | cons r l ih =>
    have hp' := List.pairwise_cons.1 hp
    have h1 := hw r (by simp)
    rw [spans_cons, par, par, ih hp'.2 fun a ha => hw a (by simp [ha]), List.any_cons]
    by_cases ha : r.x ≤ x
    · by_cases hb : r.x + r.w ≤ x
      · rw [decide_eq_true ha, decide_eq_true hb, decide_eq_false (show ¬ x < r.x + r.w by omega)]
        simp
      · have : (l.any fun r => decide (r.x ≤ x) && decide (x < r.x + r.w)) = false := by
          rw [List.any_eq_false]
          intro a ha'
          have := hp'.1 a ha'
          simp
          omega
        rw [this, decide_eq_true ha, decide_eq_false hb, decide_eq_true (show x < r.x + r.w by omega)]
        rfl
    · rw [decide_eq_false ha, decide_eq_false (show ¬ r.x + r.w ≤ x by omega)]
      simp

theorem Bands.row {l : List Rc} (h : Bands l) (y : Int) : (l.filter (lies y)).Pairwise fun a b => a.x + a.w < b.x := by
  refine (h.aft.filter _).imp_of_mem fun {a b} ha hb hr => ?_
  have h1 := lies_iff.1 (List.mem_filter.1 ha).2
  have h2 := lies_iff.1 (List.mem_filter.1 hb).2
  rcases hr with ⟨_, _, h3⟩ | h3
  · exact h3
  · omega
theorem Bands.rowW {l : List Rc} (h : Bands l) (y : Int) : ∀ r ∈ l.filter (lies y), 1 ≤ r.w := fun r hr => (h.ck r (List.mem_filter.1 hr).1).w
theorem rowE_rise {l : List Rc} (h : Bands l) (y : Int) : (rowE l y).Pairwise (· < ·) := spans_rise (h.row y) (h.rowW y)
theorem rowE_par {l : List Rc} (h : Bands l) (y x : Int) : par (rowE l y) x = pt l x y := by
  rw [rowE, spans_par (h.row y) (h.rowW y), pt, Bool.eq_iff_iff, List.any_eq_true, List.any_eq_true]
  constructor
  · rintro ⟨r, hr, hh⟩
    have h1 := List.mem_filter.1 hr
    have h2 := lies_iff.1 h1.2
    have k := h.ck r h1.1
    have k1 := k.w
    have k2 := k.h
    simp only [Bool.and_eq_true, decide_eq_true_eq] at hh
    exact ⟨r, h1.1, has_iff.2 ⟨k1, k2, hh.1, hh.2, h2.1, h2.2⟩⟩
  · rintro ⟨r, hr, hh⟩
    rw [has_iff] at hh
    exact ⟨r, List.mem_filter.2 ⟨hr, lies_iff.2 ⟨hh.2.2.2.2.1, hh.2.2.2.2.2⟩⟩, by simp; omega⟩
theorem rowE_even (l : List Rc) (y : Int) : (rowE l y).length % 2 = 0 := by rw [rowE, spans_length]; omega
theorem rowE_length (l : List Rc) (y : Int) : (rowE l y).length ≤ 2 * l.length := by
  rw [rowE, spans_length]
  have := List.length_filter_le (lies y) l
  omega

/-- Two lines' edges as one: pa, pb, po: whether the edges so far are odd. -/
def mix (f : Bool → Bool → Bool) (pa pb po : Bool) (a b : List Int) : List Int :=
  match a, b with
  | [], [] => []
  | x :: a, [] => if f (!pa) pb = po then mix f (!pa) pb po a [] else x :: mix f (!pa) pb (!po) a []
  | [], y :: b => if f pa (!pb) = po then mix f pa (!pb) po [] b else y :: mix f pa (!pb) (!po) [] b
  | x :: a, y :: b =>
    if x < y then (if f (!pa) pb = po then mix f (!pa) pb po a (y :: b) else x :: mix f (!pa) pb (!po) a (y :: b))
    else if y < x then (if f pa (!pb) = po then mix f pa (!pb) po (x :: a) b else y :: mix f pa (!pb) (!po) (x :: a) b)
    else (if f (!pa) (!pb) = po then mix f (!pa) (!pb) po a b else x :: mix f (!pa) (!pb) (!po) a b)
  termination_by a.length + b.length

structure Mixes (f : Bool → Bool → Bool) (pa pb po : Bool) (a b m : List Int) : Prop where
  mem : ∀ x ∈ m, x ∈ a ∨ x ∈ b
  rise : m.Pairwise (· < ·)
  par : ∀ z, (po ^^ par m z) = f (pa ^^ par a z) (pb ^^ par b z)

theorem mixes_step {f : Bool → Bool → Bool} {pa pb po : Bool} {a b : List Int} {x : Int} {pa' pb' : Bool} {a' b' : List Int} {rest : Bool → List Int}
    (ha : ∀ k ∈ a, x ≤ k) (hb : ∀ k ∈ b, x ≤ k) (ha' : ∀ k ∈ a', x < k) (hb' : ∀ k ∈ b', x < k) (sa : ∀ k ∈ a', k ∈ a) (sb : ∀ k ∈ b', k ∈ b) (hx : x ∈ a ∨ x ∈ b)
    (ea : ∀ z, x ≤ z → (pa' ^^ par a' z) = (pa ^^ par a z)) (eb : ∀ z, x ≤ z → (pb' ^^ par b' z) = (pb ^^ par b z)) (hpo : po = f pa pb)
    (ih : ∀ po', po' = f pa' pb' → Mixes f pa' pb' po' a' b' (rest po')) : Mixes f pa pb po a b (if f pa' pb' = po then rest po else x :: rest (!po)) := by
  have low : ∀ {m : List Int}, (∀ k ∈ m, x ≤ k) → ∀ z, z < x → par m z = false := fun hm z hz => par_below fun k hk => by have := hm k hk; omega
  split
  · rename_i e
    obtain ⟨h1, h2, h3⟩ := ih po e.symm
    refine ⟨fun k hk => ?_, h2, fun z => ?_⟩
    · rcases h1 k hk with h | h
      · exact .inl (sa k h)
      · exact .inr (sb k h)
    · rcases Int.lt_or_le z x with hz | hz
      · rw [low ha z hz, low hb z hz, low (m := rest po) (fun k hk => by
          rcases h1 k hk with h | h
          · have := ha' k h; omega
          · have := hb' k h; omega) z hz, Bool.xor_false, Bool.xor_false, Bool.xor_false]
        exact hpo
      · rw [h3 z, ea z hz, eb z hz]
  · rename_i e
    have e' : (!po) = f pa' pb' := by revert e; cases f pa' pb' <;> cases po <;> simp
    obtain ⟨h1, h2, h3⟩ := ih (!po) e'
    have up : ∀ k ∈ rest (!po), x < k := fun k hk => by
      rcases h1 k hk with h | h
      · exact ha' k h
      · exact hb' k h
    refine ⟨fun k hk => ?_, List.pairwise_cons.2 ⟨up, h2⟩, fun z => ?_⟩
    · rcases List.mem_cons.1 hk with rfl | hk
      · exact hx
      · rcases h1 k hk with h | h
        · exact .inl (sa k h)
        · exact .inr (sb k h)
    · rcases Int.lt_or_le z x with hz | hz
      · rw [low ha z hz, low hb z hz, low (m := x :: rest (!po)) (fun k hk => by
          rcases List.mem_cons.1 hk with rfl | hk
          · exact Int.le_refl _
          · have := up k hk; omega) z hz, Bool.xor_false, Bool.xor_false, Bool.xor_false]
        exact hpo
      · have := h3 z
        rw [ea z hz, eb z hz] at this
        rw [← this, par, decide_eq_true hz]
        cases po <;> cases par (rest _) z <;> rfl

theorem xor_flip {p : Bool} {x z : Int} {t : List Int} (hz : x ≤ z) : ((!p) ^^ par t z) = (p ^^ par (x :: t) z) := by
  rw [par, decide_eq_true hz]
  cases p <;> cases par t z <;> rfl

theorem mix_mixes (f : Bool → Bool → Bool) : ∀ (n : Nat) (pa pb po : Bool) (a b : List Int), a.length + b.length ≤ n → a.Pairwise (· < ·) → b.Pairwise (· < ·) → po = f pa pb → Mixes f pa pb po a b (mix f pa pb po a b) := by
  intro n
  induction n with
  | zero =>
    intro pa pb po a b hn _ _ hpo
    obtain rfl : a = [] := List.eq_nil_of_length_eq_zero (by omega)
    obtain rfl : b = [] := List.eq_nil_of_length_eq_zero (by omega)
    rw [mix]
    exact ⟨fun x hx => (by cases hx), by simp, fun z => by simp [par, hpo]⟩
  | succ n ih =>
    intro pa pb po a b hn ha hb hpo
    match a, b with
    | [], [] =>
      rw [mix]
      exact ⟨fun x hx => (by cases hx), by simp, fun z => by simp [par, hpo]⟩
    | x :: a, [] =>
      have ha' := List.pairwise_cons.1 ha
      rw [mix]
      refine mixes_step (rest := fun po => mix f (!pa) pb po a []) ?_ ?_ ha'.1 ?_ (fun k hk => by simp [hk]) (fun k hk => hk) (by simp) (fun z hz => xor_flip hz) (fun z hz => rfl) hpo fun po' h => ih _ _ _ _ _ (by simp at hn ⊢; omega) ha'.2 hb h
      · intro k hk
        rcases List.mem_cons.1 hk with rfl | hk
        · exact Int.le_refl _
        · have := ha'.1 k hk; omega
      · intro k hk; cases hk
      · intro k hk; cases hk
    | [], y :: b =>
      have hb' := List.pairwise_cons.1 hb
      rw [mix]
      refine mixes_step (rest := fun po => mix f pa (!pb) po [] b) ?_ ?_ ?_ hb'.1 (fun k hk => hk) (fun k hk => by simp [hk]) (by simp) (fun z hz => rfl) (fun z hz => xor_flip hz) hpo fun po' h => ih _ _ _ _ _ (by simp at hn ⊢; omega) ha hb'.2 h
      · intro k hk; cases hk
      · intro k hk
        rcases List.mem_cons.1 hk with rfl | hk
        · exact Int.le_refl _
        · have := hb'.1 k hk; omega
      · intro k hk; cases hk
    | x :: a, y :: b =>
      have ha' := List.pairwise_cons.1 ha
      have hb' := List.pairwise_cons.1 hb
      have ga : ∀ v, v ≤ x → ∀ k ∈ x :: a, v ≤ k := fun v hv k hk => by
        rcases List.mem_cons.1 hk with rfl | hk
        · exact hv
        · have := ha'.1 k hk; omega
      have gb : ∀ v, v ≤ y → ∀ k ∈ y :: b, v ≤ k := fun v hv k hk => by
        rcases List.mem_cons.1 hk with rfl | hk
        · exact hv
        · have := hb'.1 k hk; omega
      have sa : ∀ v, v < x → ∀ k ∈ x :: a, v < k := fun v hv k hk => by have := ga x (Int.le_refl _) k hk; omega
      have sb : ∀ v, v < y → ∀ k ∈ y :: b, v < k := fun v hv k hk => by have := gb y (Int.le_refl _) k hk; omega
      rw [mix]
      split
      · rename_i h1
        exact mixes_step (rest := fun po => mix f (!pa) pb po a (y :: b)) (ga x (Int.le_refl _)) (gb x (by omega)) ha'.1 (sb x h1) (fun k hk => by simp [hk]) (fun k hk => hk) (by simp) (fun z hz => xor_flip hz) (fun z hz => rfl) hpo fun po' h => ih _ _ _ _ _ (by simp at hn ⊢; omega) ha'.2 hb h
      · split
        · rename_i h1 h2
          exact mixes_step (rest := fun po => mix f pa (!pb) po (x :: a) b) (ga y (by omega)) (gb y (Int.le_refl _)) (sa y h2) hb'.1 (fun k hk => hk) (fun k hk => by simp [hk]) (by simp) (fun z hz => rfl) (fun z hz => xor_flip hz) hpo fun po' h => ih _ _ _ _ _ (by simp at hn ⊢; omega) ha hb'.2 h
        · rename_i h1 h2
          obtain rfl : x = y := by omega
          exact mixes_step (rest := fun po => mix f (!pa) (!pb) po a b) (ga x (Int.le_refl _)) (gb x (Int.le_refl _)) ha'.1 hb'.1 (fun k hk => by simp [hk]) (fun k hk => by simp [hk]) (by simp) (fun z hz => xor_flip hz) (fun z hz => xor_flip hz) hpo fun po' h => ih _ _ _ _ _ (by simp at hn ⊢; omega) ha'.2 hb'.2 h

/-- The program's edges on a line are the document's. -/
theorem mix_lin {f : Bool → Bool → Bool} {a b : List Rc} (hf : f false false = false) (ha : Bands a) (hb : Bands b) (y : Int) : mix f false false false (rowE a y) (rowE b y) = lin f a b y := by
  have h := mix_mixes f _ false false false (rowE a y) (rowE b y) (Nat.le_refl _) (rowE_rise ha y) (rowE_rise hb y) hf.symm
  refine par_eq h.rise ((lin_edges hf ha.ck hb.ck).rise y) fun x => ?_
  have := h.par x
  rw [Bool.false_xor, Bool.false_xor, Bool.false_xor, rowE_par ha, rowE_par hb] at this
  rw [this, lin_par hf ha.ck hb.ck]

end Go.Proofs.YtmiapccngeafkaaDoor

/- The document's rows and the program's rows are one. No program. -/
namespace Go.Proofs.YtmiapccngeafkaaDoor
open Go Go.RowKit

/-- A line's rectangles, cell by cell. -/
def rstep (F : Int → Bool) (y h : Int) (acc : List Rc) (x x' : Int) : List Rc :=
  if F x = false then acc else match acc.getLast? with
    | some r => if r.x + r.w = x then acc.dropLast ++ [⟨r.x, r.y, x' - r.x, r.h⟩] else acc ++ [⟨x, y, x' - x, h⟩]
    | none => acc ++ [⟨x, y, x' - x, h⟩]
def rgo (F : Int → Bool) (y h : Int) (acc : List Rc) : List Int → List Rc
  | x :: x' :: t => rgo F y h (rstep F y h acc x x') (x' :: t)
  | _ => acc

theorem prs_append {y h : Int} : ∀ {a : List Int} (b : List Int), a.length % 2 = 0 → prs y h (a ++ b) = prs y h a ++ prs y h b
  | [], b, _ => rfl
  | [_], _, h => by simp at h
  | k :: m :: a, b, h2 => by
    rw [List.cons_append, List.cons_append, prs, prs, prs_append b (by simpa [Nat.add_assoc] using h2), List.cons_append]

theorem last_two {l : List Int} (h : l.length % 2 = 0) (hl : l ≠ []) : ∃ m a b, l = m ++ [a, b] ∧ m.length % 2 = 0 := by
  have h2 : 2 ≤ l.length := by
    rcases l with _ | ⟨a, _ | ⟨b, t⟩⟩
    · exact absurd rfl hl
    · simp at h
    · simp
  refine ⟨l.take (l.length - 2), l[l.length - 2], l[l.length - 1], ?_, by rw [List.length_take]; omega⟩
  have e1 : l = l.take (l.length - 2) ++ l.drop (l.length - 2) := (List.take_append_drop _ _).symm
  have e2 : l.drop (l.length - 2) = [l[l.length - 2], l[l.length - 1]] := by
    rw [List.drop_eq_getElem_cons (by omega), List.drop_eq_getElem_cons (by omega)]
    congr 1
    rw [List.drop_eq_nil_of_le (by omega)]
    congr 2
    omega
  rw [← e2]
  exact e1
theorem last_one {l : List Int} (h : l.length % 2 = 1) : ∃ m a, l = m ++ [a] ∧ m.length % 2 = 0 := by
  refine ⟨l.dropLast, l.getLast (fun e => by rw [e] at h; simp at h), (List.dropLast_concat_getLast _).symm, by rw [List.length_dropLast]; omega⟩

theorem rstep_no {F : Int → Bool} {x : Int} (h : F x = false) (y k : Int) (acc : List Rc) (x' : Int) : rstep F y k acc x x' = acc := by rw [rstep, if_pos h]
theorem rstep_new {F : Int → Bool} {x : Int} (h : F x = true) (y k : Int) {es : List Int} (h2 : es.length % 2 = 0) (hl : ∀ e ∈ es, e < x) (x' : Int) : rstep F y k (prs y k es) x x' = prs y k (es ++ [x, x']) := by
  rw [rstep, if_neg (by rw [h]; decide), prs_append _ h2]
  by_cases he : es = []
  · subst he
    rfl
  · obtain ⟨m, a, b, rfl, hm⟩ := last_two h2 he
    have e : prs y k (m ++ [a, b]) = prs y k m ++ [⟨a, y, b - a, k⟩] := by rw [prs_append _ hm]; rfl
    have hb := hl b (by simp)
    rw [e, List.getLast?_append]
    simp only [List.getLast?_singleton, Option.some_or]
    rw [if_neg (by omega)]
    rfl
theorem rstep_on {F : Int → Bool} {x : Int} (h : F x = true) (y k : Int) {es : List Int} (h2 : es.length % 2 = 1) (x' : Int) : rstep F y k (prs y k (es ++ [x])) x x' = prs y k (es ++ [x']) := by
  obtain ⟨m, a, rfl, hm⟩ := last_one h2
  have e : ∀ z, prs y k (m ++ [a] ++ [z]) = prs y k m ++ [⟨a, y, z - a, k⟩] := fun z => by rw [List.append_assoc, prs_append _ hm]; rfl
  rw [rstep, if_neg (by rw [h]; decide), e, e, List.getLast?_append]
  simp only [List.getLast?_singleton, Option.some_or]
  rw [if_pos (by omega), List.dropLast_append_of_ne_nil (by simp)]
  simp

theorem rgo_prs {F : Int → Bool} {y h : Int} : ∀ (t : List Int) (x : Int) (p : Bool) (es : List Int), (x :: t).Pairwise (· < ·) → F ((x :: t).getLast (by simp)) = false → es.length % 2 = (if p then 1 else 0) → (∀ e ∈ es, e < x) →
    rgo F y h (prs y h (es ++ if p then [x] else [])) (x :: t) = prs y h (es ++ chg F p (x :: t))
  | [], x, p, es, _, hF, h2, _ => by
    rw [rgo]
    · rw [List.getLast_singleton] at hF
      rw [chg, hF]
      cases p
      · simp [chg]
      · simp [chg]
    · intros; simp at *
  | x' :: t, x, p, es, hp, hF, h2, hl => by
    have hp' := List.pairwise_cons.1 hp
    have hx := hp'.1 x' (by simp)
    rw [List.getLast_cons (by simp)] at hF
    rw [rgo]
    cases hFx : F x
    · have ih := rgo_prs (y := y) (h := h) t x' false (es ++ if p then [x] else []) hp'.2 hF (by cases p <;> simp at h2 ⊢ <;> omega) (fun e he => by
        rcases List.mem_append.1 he with he | he
        · have := hl e he; omega
        · cases p
          · simp at he
          · simp at he; omega)
      rw [rstep_no hFx]
      simp only [Bool.false_eq_true, if_false, List.append_nil] at ih
      rw [ih, show chg F p (x :: x' :: t) = (if F x = p then chg F p (x' :: t) else x :: chg F (F x) (x' :: t)) from rfl, hFx, List.append_assoc]
      cases p <;> simp
    · cases p
      · have ih := rgo_prs (y := y) (h := h) t x' true (es ++ [x]) hp'.2 hF (by simp at h2 ⊢; omega) (fun e he => by
          rcases List.mem_append.1 he with he | he
          · have := hl e he; omega
          · simp at he; omega)
        simp only [Bool.false_eq_true, if_false, List.append_nil, if_true] at ih h2 ⊢
        rw [rstep_new hFx y h h2 hl x', chg, hFx]
        rw [List.append_assoc] at ih
        rw [show es ++ [x, x'] = es ++ ([x] ++ [x']) by rfl, ih]
        simp
      · have ih := rgo_prs (y := y) (h := h) t x' true es hp'.2 hF h2 (fun e he => by have := hl e he; omega)
        simp only [if_true] at ih h2 ⊢
        rw [rstep_on hFx y h h2 x', ih, show chg F true (x :: x' :: t) = (if F x = true then chg F true (x' :: t) else x :: chg F (F x) (x' :: t)) from rfl, hFx]
        simp

/-- A line's rectangles are those of its edges. -/
theorem row_prs {f : Bool → Bool → Bool} {a b : List Rc} (hf : f false false = false) (y h : Int) : rgo (fun x => f (pt a x y) (pt b x y)) y h [] (xsOf (a ++ b)) = prs y h (lin f a b y) := by
  rw [lin]
  cases hx : xsOf (a ++ b) with
  | nil => rfl
  | cons x t =>
    have := rgo_prs (F := fun x => f (pt a x y) (pt b x y)) (y := y) (h := h) t x false [] (by rw [← hx]; exact xs_rise _) ?_ rfl (by simp)
    · simpa [prs] using this
    · have key : ∀ l : List Rc, (∀ r ∈ l, r ∈ a ++ b) → pt l ((x :: t).getLast (by simp)) y = false := fun l hl => by
        rw [pt_no]
        intro r hr
        have h1 : r.x + r.w ∈ x :: t := by rw [← hx]; exact xs_mem.2 ⟨r, hl r hr, .inr rfl⟩
        have h2 : ∀ (m : List Int) (hm : m ≠ []), m.Pairwise (· < ·) → ∀ k ∈ m, k ≤ m.getLast hm := fun m => by
          induction m with
          | nil => intro hm; exact absurd rfl hm
          | cons c m ih =>
            intro hm hp k hk
            have hp' := List.pairwise_cons.1 hp
            by_cases e : m = []
            · subst e; simp at hk; subst hk; simp
            · rw [List.getLast_cons e]
              rcases List.mem_cons.1 hk with rfl | hk
              · have := hp'.1 _ (List.getLast_mem e); omega
              · exact ih e hp'.2 k hk
        have h3 := h2 (x :: t) (by simp) (by rw [← hx]; exact xs_rise _) _ h1
        cases hh : has r ((x :: t).getLast (by simp)) y
        · rfl
        · rw [has_iff] at hh; omega
      show f (pt a _ y) (pt b _ y) = false
      rw [key a (fun r hr => by simp [hr]), key b (fun r hr => by simp [hr]), hf]

/-- Two bands of the same X and W, one right below the other. -/
def alk (a b : List Rc) : Bool := match a, b with
  | p :: a, q :: b => decide (p.y + p.h = q.y) && (decide (a.length = b.length) && ((p :: a).zip (q :: b)).all fun u => decide (u.1.x = u.2.x) && decide (u.1.w = u.2.w))
  | _, _ => false
def grow (d : Int) (l : List Rc) : List Rc := l.map fun r => ⟨r.x, r.y, r.w, r.h + d⟩
theorem grow_prs (y h d : Int) : ∀ e, grow d (prs y h e) = prs y (h + d) e
  | [] => rfl
  | [_] => rfl
  | a :: b :: t => by
    rw [prs, prs, grow, List.map_cons]
    congr 1
    exact grow_prs y h d t

theorem prs_same {y h y' h' : Int} : ∀ {e e' : List Int}, e.length % 2 = 0 → e'.length % 2 = 0 → (((prs y h e).length = (prs y' h' e').length ∧ ((prs y h e).zip (prs y' h' e')).all (fun u => decide (u.1.x = u.2.x) && decide (u.1.w = u.2.w)) = true) ↔ e = e')
  | [], [], _, _ => by simp [prs]
  | [], [_], _, h => by simp at h
  | [], _ :: _ :: _, _, _ => by simp [prs]
  | [_], _, h, _ => by simp at h
  | _ :: _ :: _, [], _, _ => by simp [prs]
  | _ :: _ :: _, [_], _, h => by simp at h
  | a :: b :: t, a' :: b' :: t', h2, h2' => by
    have ih := prs_same (y := y) (h := h) (y' := y') (h' := h') (e := t) (e' := t') (by simpa [Nat.add_assoc] using h2) (by simpa [Nat.add_assoc] using h2')
    rw [prs, prs, List.zip_cons_cons, List.all_cons, List.length_cons, List.length_cons, Bool.and_eq_true, Bool.and_eq_true, decide_eq_true_eq, decide_eq_true_eq, List.cons.injEq, List.cons.injEq, ← ih]
    simp only
    constructor
    · rintro ⟨h1, ⟨h3, h4⟩, h5⟩
      exact ⟨h3, by omega, by omega, h5⟩
    · rintro ⟨h3, h4, h1, h5⟩
      exact ⟨by omega, ⟨h3, by omega⟩, h5⟩

theorem alk_prs {y0 y h : Int} {e e' : List Int} (he : e.length % 2 = 0) (he' : e'.length % 2 = 0) : alk (prs y0 (y - y0) e) (prs y h e') = decide (e = e' ∧ e ≠ []) := by
  have key := prs_same (y := y0) (h := y - y0) (y' := y) (h' := h) he he'
  match e, e', he, he' with
  | [], _, _, _ => simp [prs, alk]
  | [_], _, h, _ => simp at h
  | a :: b :: t, [], _, _ => simp [prs, alk]
  | a :: b :: t, [_], _, h => simp at h
  | a :: b :: t, a' :: b' :: t', _, _ =>
    rw [Bool.eq_iff_iff, decide_eq_true_eq, ← key]
    rw [prs, prs, alk, Bool.and_eq_true, Bool.and_eq_true, decide_eq_true_eq, decide_eq_true_eq]
    simp only [List.length_cons]
    constructor
    · rintro ⟨h1, h2, h3⟩
      exact ⟨⟨by omega, h3⟩, by simp⟩
    · rintro ⟨⟨h1, h2⟩, _⟩
      exact ⟨by omega, by omega, h2⟩

/-- The document's rows put together. -/
def mgo (R : Int → Int → List Rc) (l last : List Rc) : List Int → List Rc
  | y :: y' :: t => if alk last (R y y') = true then mgo R l (grow (y' - y) last) (y' :: t) else mgo R (l ++ last) (R y y') (y' :: t)
  | _ => l ++ last

theorem mgo_fin {E : Int → List Int} (hE : Edges E) {R : Int → Int → List Rc} (hR : ∀ y y', R y y' = prs y (y' - y) (E y)) : ∀ (t : List Int) (y : Int) (l : List Rc) (y0 : Int) (e : List Int), e.length % 2 = 0 → E ((y :: t).getLast (by simp)) = [] → mgo R l (prs y0 (y - y0) e) (y :: t) = l ++ fin E y0 e (y :: t)
  | [], y, l, y0, e, _, hl => by
    rw [List.getLast_singleton] at hl
    rw [mgo]
    · rw [fin, hl]
      by_cases h : e = []
      · subst h; rfl
      · rw [if_neg (fun h' => h h'.symm), fin, List.append_nil]
    · intros; simp at *
  | y' :: t, y, l, y0, e, he, hl => by
    rw [List.getLast_cons (by simp)] at hl
    rw [mgo, hR, alk_prs he (hE.even y), fin]
    by_cases h : E y = e
    · rw [if_pos h]
      by_cases h' : e = []
      · rw [if_neg (by simp [h'])]
        have := mgo_fin hE hR t y' l y0 e he hl
        rw [← this, h', h, h']
        simp [prs]
      · rw [if_pos (by simp [h, h']), grow_prs, show y - y0 + (y' - y) = y' - y0 by omega]
        exact mgo_fin hE hR t y' l y0 e he hl
    · rw [if_neg h, if_neg (by simp; intro h'; exact absurd h'.symm h), mgo_fin hE hR t y' _ y (E y) (hE.even y) hl, List.append_assoc]

/-- The document's own is what comes of both. -/
theorem mgo_mk {f : Bool → Bool → Bool} {a b : List Rc} (hf : f false false = false) (ha : ∀ r ∈ a, Ck r) (hb : ∀ r ∈ b, Ck r) : mgo (fun y y' => rgo (fun x => f (pt a x y) (pt b x y)) y (y' - y) [] (xsOf (a ++ b))) [] [] (ysOf (a ++ b)) = mk f a b := by
  rw [mk]
  cases hy : ysOf (a ++ b) with
  | nil => rfl
  | cons y t =>
    have hl : lin f a b ((y :: t).getLast (by simp)) = [] := by
      have hT := lin_turns hf ha hb
      rw [hy] at hT
      have key : ∀ (ys : List Int) (hn : ys ≠ []) (y0 : Int) (e : List Int), Turns (lin f a b) y0 e ys → lin f a b (ys.getLast hn) = [] := fun ys => by
        induction ys with
        | nil => intro hn; exact absurd rfl hn
        | cons c m ih =>
          intro hn y0 e h
          obtain ⟨h1, h2, h3⟩ := h
          cases m with
          | nil => exact h3 c (Int.le_refl _)
          | cons d m => rw [List.getLast_cons (by simp)]; exact ih (by simp) _ _ h3
      exact key _ (by simp) _ _ hT
    have := mgo_fin (lin_edges hf ha hb) (R := fun y y' => rgo (fun x => f (pt a x y) (pt b x y)) y (y' - y) [] (xsOf (a ++ b))) (fun y y' => row_prs hf y (y' - y)) t y [] (-16777217) [] rfl hl
    simpa [prs] using this

/-- The program's rows: where the edges turn. -/
def rows (E : Int → List Int) : List Int → List Int → List (Int × List Int)
  | _, [] => []
  | e, y :: t => if E y = e then rows E e t else (y, E y) :: rows E (E y) t
/-- The rows' rectangles. -/
def bnds : List (Int × List Int) → List Rc
  | (y, e) :: (y', e') :: t => prs y (y' - y) e ++ bnds ((y', e') :: t)
  | _ => []
theorem rows_fin (E : Int → List Int) : ∀ (ys : List Int) (y0 : Int) (e : List Int), bnds ((y0, e) :: rows E e ys) = fin E y0 e ys
  | [], _, _ => rfl
  | y :: t, y0, e => by
    rw [rows, fin]
    split
    · exact rows_fin E t y0 e
    · rw [bnds, rows_fin E t y (E y)]
theorem bnds_start (y0 : Int) (l : List (Int × List Int)) : bnds ((y0, []) :: l) = bnds l := by
  cases l with
  | nil => rfl
  | cons a l => rw [bnds]; rfl
/-- The program's own is what comes of both. -/
theorem rows_mk {f : Bool → Bool → Bool} {a b : List Rc} (hf : f false false = false) (ha : Bands a) (hb : Bands b) : bnds (rows (fun y => mix f false false false (rowE a y) (rowE b y)) [] (ysOf (a ++ b))) = mk f a b := by
  rw [← bnds_start (-16777217), rows_fin, mk]
  exact fin_congr (fun z => mix_lin hf ha hb z) _ _ _

end Go.Proofs.YtmiapccngeafkaaDoor

/- What the program's and the document's Check tell. No program. -/
namespace Go.Proofs.YtmiapccngeafkaaDoor
open Go Go.RowKit

theorem aft_trans {a b c : Rc} (kb : Ck b) (h : Aft a b) (h' : Aft b c) : Aft a c := by
  have := kb.h
  have := kb.w
  rcases h with ⟨h1, h2, h3⟩ | h1 <;> rcases h' with ⟨g1, g2, g3⟩ | g1
  · exact .inl ⟨by omega, by omega, by omega⟩
  · exact .inr (by omega)
  · exact .inr (by omega)
  · exact .inr (by omega)

/-- r may stand right behind a. -/
def flw (a r : Rc) : Bool := if r.y = a.y then decide (r.h = a.h) && decide (a.x + a.w < r.x) else decide (a.y + a.h ≤ r.y)
def chn : List Rc → Bool
  | a :: b :: t => flw a b && chn (b :: t)
  | _ => true
theorem flw_iff {a r : Rc} (ka : Ck a) : flw a r = true ↔ Aft a r := by
  have := ka.h
  unfold flw Aft
  split
  · rename_i h
    rw [Bool.and_eq_true, decide_eq_true_eq, decide_eq_true_eq]
    constructor
    · rintro ⟨h1, h2⟩; exact .inl ⟨h, h1, h2⟩
    · rintro (⟨_, h1, h2⟩ | h1)
      · exact ⟨h1, h2⟩
      · omega
  · rename_i h
    rw [decide_eq_true_eq]
    constructor
    · intro h1; exact .inr h1
    · rintro (⟨h1, _⟩ | h1)
      · exact absurd h1 h
      · exact h1
theorem chn_iff : ∀ {l : List Rc}, (∀ r ∈ l, Ck r) → (chn l = true ↔ l.Pairwise Aft)
  | [], _ => by simp [chn]
  | [_], _ => by simp [chn]
  | a :: b :: t, hk => by
    rw [chn, Bool.and_eq_true, flw_iff (hk a (by simp)), chn_iff (fun r hr => hk r (by simp [hr])), List.pairwise_cons (a := a)]
    constructor
    · rintro ⟨h1, h2⟩
      refine ⟨fun c hc => ?_, h2⟩
      rcases List.mem_cons.1 hc with rfl | hc
      · exact h1
      · exact aft_trans (hk b (by simp)) h1 ((List.pairwise_cons.1 h2).1 c hc)
    · rintro ⟨h1, h2⟩
      exact ⟨h1 b (by simp), h2⟩

/-- The first band, and what is behind it. -/
def band (r : Rc) (t : List Rc) : List Rc := r :: t.takeWhile fun a => decide (a.y = r.y)
def behind (r : Rc) (t : List Rc) : List Rc := t.dropWhile fun a => decide (a.y = r.y)
theorem band_behind (r : Rc) (t : List Rc) : band r t ++ behind r t = r :: t := by rw [band, behind, List.cons_append, List.takeWhile_append_dropWhile]
theorem behind_length (r : Rc) (t : List Rc) : (behind r t).length ≤ t.length := by
  have := congrArg List.length (List.takeWhile_append_dropWhile (p := fun a => decide (a.y = r.y)) (l := t))
  rw [List.length_append] at this
  rw [behind]
  omega

def tch (above : List Rc) (y : Int) : Bool := match above with
  | a :: _ => decide (a.y + a.h = y)
  | [] => false
def eqs (a b : List Rc) : Bool := decide (a.length = b.length) && (a.zip b).all fun u => decide (u.1.x = u.2.x) && decide (u.1.w = u.2.w)
/-- No band is like the one that it touches. -/
def prt (above : List Rc) (l : List Rc) : Bool := match l with
  | [] => true
  | r :: t => if tch above r.y = true ∧ eqs above (band r t) = true then false else prt (band r t) (behind r t)
  termination_by l.length
  decreasing_by
    have := behind_length r t
    simp only [List.length_cons]
    omega

theorem eqs_iff {a b : List Rc} : eqs a b = true ↔ spans a = spans b := by
  induction a generalizing b with
  | nil =>
    cases b with
    | nil => simp [eqs, spans]
    | cons q b => simp [eqs, spans]
  | cons p a ih =>
    cases b with
    | nil => simp [eqs, spans]
    | cons q b =>
      have := ih (b := b)
      simp only [eqs, Bool.and_eq_true, decide_eq_true_eq] at this ⊢
      rw [spans_cons, spans_cons, List.cons.injEq, List.cons.injEq, ← this, List.zip_cons_cons, List.all_cons, List.length_cons, List.length_cons, Bool.and_eq_true, Bool.and_eq_true, decide_eq_true_eq, decide_eq_true_eq]
      simp only
      constructor
      · rintro ⟨h1, ⟨h3, h4⟩, h5⟩
        exact ⟨h3, by omega, by omega, h5⟩
      · rintro ⟨h3, h4, h1, h5⟩
        exact ⟨by omega, ⟨h3, by omega⟩, h5⟩

theorem band_y {r : Rc} {t : List Rc} : ∀ a ∈ band r t, a.y = r.y := fun a ha => by
  rcases List.mem_cons.1 ha with rfl | ha
  · rfl
  · have := List.all_takeWhile (p := fun a : Rc => decide (a.y = r.y)) (l := t)
    rw [List.all_eq_true] at this
    simpa using this a ha
theorem behind_head {r : Rc} {t : List Rc} {q : Rc} {m : List Rc} (h : behind r t = q :: m) : q.y ≠ r.y := by
  have := List.head?_dropWhile_not (fun a : Rc => decide (a.y = r.y)) t
  rw [behind] at h
  rw [h] at this
  simpa using this

theorem Bands.low {l : List Rc} (h : Bands l) : l.Pairwise fun a b => a.y ≤ b.y := h.aft.imp_of_mem fun {a b} ha _ hr => by
  have := (h.ck a ha).h
  rcases hr with ⟨_, _, _⟩ | _ <;> omega
theorem Bands.right {a b : List Rc} (h : Bands (a ++ b)) : Bands b := ⟨fun r hr => h.ck r (by simp [hr]), (List.pairwise_append.1 h.aft).2.1⟩

/-- Behind a band all is below it. -/
theorem band_sep {r : Rc} {t : List Rc} (h : Bands (r :: t)) : ∀ a ∈ band r t, a.h = r.h ∧ ∀ b ∈ behind r t, a.y + a.h ≤ b.y := by
  have hb := h.aft
  rw [← band_behind, List.pairwise_append] at hb
  have kr := h.ck r (by simp)
  intro a ha
  have hm : a ∈ r :: t := by rw [← band_behind]; simp [ha]
  have ey := band_y a ha
  have ka := h.ck a hm
  have k1 := ka.h
  have k2 := kr.h
  constructor
  · obtain ⟨_, e, _⟩ := h.meet hm (by simp : r ∈ r :: t) (y := r.y) ⟨by omega, by omega⟩ ⟨by omega, by omega⟩
    exact e
  · intro b hb'
    cases hq : behind r t with
    | nil => rw [hq] at hb'; cases hb'
    | cons q m =>
      have hne := behind_head hq
      rw [hq] at hb hb'
      have h1 := hb.2.2 a ha q (by simp)
      have h2 : a.y + a.h ≤ q.y := by
        rcases h1 with ⟨g1, _, _⟩ | g1
        · omega
        · exact g1
      rcases List.mem_cons.1 hb' with rfl | hb'
      · exact h2
      · have kq : Ck q := h.ck q (by rw [← band_behind, hq]; simp)
        have k3 := kq.h
        rcases (List.pairwise_cons.1 hb.2.1).1 b hb' with ⟨g1, _, _⟩ | g1 <;> omega

theorem filter_none {α : Type} {p : α → Bool} {l : List α} (h : ∀ a ∈ l, p a = false) : l.filter p = [] := by
  rw [List.filter_eq_nil_iff]
  intro a ha
  rw [h a ha]
  decide
theorem filter_whole {α : Type} {p : α → Bool} {l : List α} (h : ∀ a ∈ l, p a = true) : l.filter p = l := List.filter_eq_self.2 h

theorem lies_no {y : Int} {r : Rc} (h : ¬ (r.y ≤ y ∧ y < r.y + r.h)) : lies y r = false := by
  rw [← Bool.not_eq_true, lies_iff]
  exact h

theorem prt_iff (n : Nat) : ∀ (rest : List Rc), rest.length ≤ n → ∀ (pre above : List Rc), Bands (pre ++ rest) → (∀ a ∈ pre, ∀ b ∈ rest, a.y + a.h ≤ b.y) → (∀ a ∈ above, ∀ b ∈ above, a.y = b.y ∧ a.h = b.h) → (∀ a ∈ above, a ∈ pre) →
    (∀ z, (∀ a ∈ above, a.y ≤ z) → (∀ b ∈ rest, z < b.y) → (pre ++ rest).filter (lies z) = above.filter (lies z)) →
    (prt above rest = true ↔ ∀ r ∈ rest, rowE (pre ++ rest) (r.y - 1) ≠ rowE (pre ++ rest) r.y) := by
  induction n with
  | zero =>
    intro rest hn pre above _ _ _ _ _
    obtain rfl : rest = [] := List.eq_nil_of_length_eq_zero (by omega)
    rw [prt]
    simp
  | succ n ih =>
    intro rest hn pre above hB hsep hsame hin hinv
    cases rest with
    | nil => rw [prt]; simp
    | cons r t =>
      have hbr := hB.right
      have kr := hbr.ck r (by simp)
      have k1 := kr.h
      have hlow : ∀ b ∈ r :: t, r.y ≤ b.y := fun b hb => by
        rcases List.mem_cons.1 hb with rfl | hb
        · exact Int.le_refl _
        · exact (List.pairwise_cons.1 hbr.low).1 b hb
      have hs := band_sep hbr
      -- the line of the band
      have hrow : ∀ z, r.y ≤ z → (∀ b ∈ behind r t, z < b.y) → (pre ++ (r :: t)).filter (lies z) = (band r t).filter (lies z) := fun z hz hb => by
        rw [List.filter_append, filter_none (l := pre) fun a ha => lies_no (by have := hsep a ha r (by simp); omega), List.nil_append, ← band_behind, List.filter_append, filter_none (l := behind r t) fun a ha => lies_no (by have := hb a ha; omega), List.append_nil]
      have e1 : rowE (pre ++ (r :: t)) r.y = spans (band r t) := by
        rw [rowE, hrow r.y (Int.le_refl _) (fun b hb => by have := (hs r (by simp [band])).2 b hb; omega), filter_whole]
        intro a ha
        rw [lies_iff, band_y a ha, (hs a ha).1]
        omega
      have e2 : rowE (pre ++ (r :: t)) (r.y - 1) = if tch above r.y = true then spans above else [] := by
        rw [rowE, hinv (r.y - 1) (fun a ha => by
          have h1 := hsep a (hin a ha) r (by simp)
          have h2 := (hB.ck a (by simp [hin a ha])).h
          omega) (fun b hb => by have := hlow b hb; omega)]
        cases above with
        | nil => simp [tch, spans]
        | cons a m =>
          have ka := (hB.ck a (by simp [hin a (by simp)])).h
          have h1 := hsep a (hin a (by simp)) r (by simp)
          by_cases ht : a.y + a.h = r.y
          · rw [if_pos (by simp [tch, ht]), filter_whole]
            intro c hc
            obtain ⟨g1, g2⟩ := hsame c hc a (by simp)
            rw [lies_iff]
            omega
          · rw [if_neg (by simp [tch, ht]), filter_none]
            · rfl
            · intro c hc
              obtain ⟨g1, g2⟩ := hsame c hc a (by simp)
              exact lies_no (by omega)
      have hsplit : pre ++ (r :: t) = (pre ++ band r t) ++ behind r t := by rw [List.append_assoc, band_behind]
      have hL := behind_length r t
      have hnext := ih (behind r t) (by simp at hn; omega) (pre ++ band r t) (band r t) (by rw [← hsplit]; exact hB) (fun a ha b hb => by
        rcases List.mem_append.1 ha with ha | ha
        · exact hsep a ha b (by rw [← band_behind]; simp [hb])
        · exact (hs a ha).2 b hb) (fun a ha b hb => ⟨by rw [band_y a ha, band_y b hb], by rw [(hs a ha).1, (hs b hb).1]⟩) (fun a ha => by simp [ha]) (fun z h1 h2 => by
          rw [← hsplit]
          exact hrow z (h1 r (by simp [band])) h2)
      rw [← hsplit] at hnext
      have hall : (∀ q ∈ r :: t, rowE (pre ++ (r :: t)) (q.y - 1) ≠ rowE (pre ++ (r :: t)) q.y) ↔ (rowE (pre ++ (r :: t)) (r.y - 1) ≠ rowE (pre ++ (r :: t)) r.y ∧ ∀ q ∈ behind r t, rowE (pre ++ (r :: t)) (q.y - 1) ≠ rowE (pre ++ (r :: t)) q.y) := by
        constructor
        · intro h
          exact ⟨h r (by simp), fun q hq => h q (by rw [← band_behind]; simp [hq])⟩
        · rintro ⟨h1, h2⟩ q hq
          rw [← band_behind] at hq
          rcases List.mem_append.1 hq with hq | hq
          · rw [band_y q hq]; exact h1
          · exact h2 q hq
      rw [hall, prt, e1, e2, ← hnext]
      have hne : spans (band r t) ≠ [] := by rw [band, spans_cons]; simp
      by_cases ht : tch above r.y = true
      · rw [if_pos ht]
        by_cases he : eqs above (band r t) = true
        · rw [if_pos ⟨ht, he⟩]
          simp [eqs_iff.1 he]
        · rw [if_neg fun h => he h.2]
          exact ⟨fun h => ⟨fun h' => he (eqs_iff.2 h'), h⟩, fun h => h.2⟩
      · rw [if_neg ht, if_neg fun h => ht h.1]
        exact ⟨fun h => ⟨fun h' => hne h'.symm, h⟩, fun h => h.2⟩

theorem reg_iff {l : List Rc} : Reg l ↔ Bands l ∧ ∀ r ∈ l, rowE l (r.y - 1) ≠ rowE l r.y := by
  constructor
  · intro h
    refine ⟨h.bands, fun r hr e => ?_⟩
    obtain ⟨x, hx⟩ := h.top r hr
    rw [← rowE_par h.bands, ← rowE_par h.bands, e] at hx
    exact hx rfl
  · rintro ⟨h, h'⟩
    refine ⟨h.ck, h.aft, fun r hr => ?_⟩
    refine Classical.byContradiction fun hc => h' r hr (par_eq (rowE_rise h _) (rowE_rise h _) fun x => ?_)
    rw [rowE_par h, rowE_par h]
    exact Classical.byContradiction fun h => hc ⟨x, h⟩

/-- The program's Check. -/
theorem chk_reg {l : List Rc} (hk : ∀ r ∈ l, Ck r) : (chn l = true ∧ prt [] l = true) ↔ Reg l := by
  rw [reg_iff, chn_iff hk]
  constructor
  · rintro ⟨h1, h2⟩
    have hB : Bands l := ⟨hk, h1⟩
    have := prt_iff l.length l (Nat.le_refl _) [] [] hB (by simp) (by simp) (by simp) (fun z _ hz => by
      rw [List.nil_append, List.filter_nil]
      exact filter_none fun a ha => lies_no (by have := hz a ha; omega))
    exact ⟨hB, this.1 h2⟩
  · rintro ⟨hB, h2⟩
    have := prt_iff l.length l (Nat.le_refl _) [] [] hB (by simp) (by simp) (by simp) (fun z _ hz => by
      rw [List.nil_append, List.filter_nil]
      exact filter_none fun a ha => lies_no (by have := hz a ha; omega))
    exact ⟨hB.aft, this.2 h2⟩

/-- The document's Check: what comes of it alone is itself. -/
theorem mk_reg {l : List Rc} (hk : ∀ r ∈ l, Ck r) : mk or l [] = l ↔ Reg l := by
  obtain ⟨h1, h2, _⟩ := mk_all (f := or) (a := l) (b := []) rfl hk (by simp)
  constructor
  · intro e; rw [← e]; exact h1
  · intro h
    exact reg_eq h1 h fun x y => by rw [h2, pt_nil, Bool.or_false]

/-- The bands that do not end above the line y. -/
def frm (l : List Rc) (y : Int) : List Rc := l.dropWhile fun r => decide (r.y + r.h ≤ y)
theorem frm_frm {l : List Rc} {y y' : Int} (h : y ≤ y') : frm (frm l y) y' = frm l y' := by
  unfold frm
  induction l with
  | nil => rfl
  | cons r l ih =>
    rw [List.dropWhile_cons]
    split
    · rename_i h1
      rw [ih, List.dropWhile_cons, if_pos (by simp at h1 ⊢; omega)]
    · rfl
def edg (l : List Rc) (y : Int) : List Int := match l with
  | [] => []
  | r :: t => if y < r.y then [] else spans (band r t)

theorem edg_row {l : List Rc} (h : Bands l) (y : Int) : edg (frm l y) y = rowE l y := by
  have hsplit := List.takeWhile_append_dropWhile (p := fun r : Rc => decide (r.y + r.h ≤ y)) (l := l)
  have hno : rowE l y = rowE (frm l y) y := by
    rw [rowE, rowE, frm]
    congr 1
    have e : l.filter (lies y) = (l.takeWhile (fun r : Rc => decide (r.y + r.h ≤ y)) ++ l.dropWhile (fun r : Rc => decide (r.y + r.h ≤ y))).filter (lies y) := by rw [hsplit]
    rw [e, List.filter_append, filter_none, List.nil_append]
    intro a ha
    have := List.all_takeWhile (p := fun r : Rc => decide (r.y + r.h ≤ y)) (l := l)
    rw [List.all_eq_true] at this
    have := of_decide_eq_true (this a ha)
    exact lies_no (by omega)
  have hB : Bands (frm l y) := by
    rw [frm]
    rw [← hsplit] at h
    exact h.right
  rw [hno]
  cases hl : frm l y with
  | nil => rfl
  | cons r t =>
    have hr : ¬ r.y + r.h ≤ y := by
      have := List.head?_dropWhile_not (fun r : Rc => decide (r.y + r.h ≤ y)) l
      rw [frm] at hl
      rw [hl] at this
      simpa using this
    rw [hl] at hB
    rw [edg]
    split
    · rename_i hy
      rw [rowE, filter_none]
      · rfl
      · intro a ha
        have : r.y ≤ a.y := by
          rcases List.mem_cons.1 ha with rfl | ha
          · exact Int.le_refl _
          · exact (List.pairwise_cons.1 hB.low).1 a ha
        exact lies_no (by omega)
    · rename_i hy
      have hs := band_sep hB
      rw [rowE, ← band_behind, List.filter_append, filter_whole, filter_none (l := behind r t), List.append_nil]
      · intro a ha
        have := (hs r (by simp [band])).2 a ha
        exact lies_no (by omega)
      · intro a ha
        rw [lies_iff, band_y a ha, (hs a ha).1]
        omega

end Go.Proofs.YtmiapccngeafkaaDoor

/- How many points; how many rectangles; regions of a few rectangles; moved. No program. -/
namespace Go.Proofs.YtmiapccngeafkaaDoor
open Go Go.RowKit

/-- A sum over the first n numbers. -/
def S : Nat → (Nat → Int) → Int
  | 0, _ => 0
  | n + 1, g => S n g + g n
theorem S_congr {n : Nat} {g g' : Nat → Int} (h : ∀ i < n, g i = g' i) : S n g = S n g' := by
  induction n with
  | zero => rfl
  | succ n ih => rw [S, S, ih fun i hi => h i (by omega), h n (by omega)]
theorem S_add (n : Nat) (g g' : Nat → Int) : S n (fun i => g i + g' i) = S n g + S n g' := by
  induction n with
  | zero => rfl
  | succ n ih => rw [S, S, S, ih]; omega
theorem S_mul (n : Nat) (g : Nat → Int) (c : Int) : S n (fun i => g i * c) = S n g * c := by
  induction n with
  | zero => rw [S, S, Int.zero_mul]
  | succ n ih => rw [S, S, ih, Int.add_mul]
theorem S_zero (n : Nat) : S n (fun _ => 0) = 0 := by
  induction n with
  | zero => rfl
  | succ n ih => rw [S, ih]; rfl
def one (b : Bool) : Int := if b = true then 1 else 0
theorem S_span {lo hi : Int} (h0 : 0 ≤ lo) (h1 : lo ≤ hi) (n : Nat) : S n (fun i => one (decide (lo ≤ (i : Int)) && decide ((i : Int) < hi))) = min hi n - min lo n := by
  induction n with
  | zero => rw [S]; omega
  | succ n ih =>
    rw [S, ih, one]
    split
    · rename_i h; simp at h; omega
    · rename_i h; simp at h; omega

/-- How many points there are, of those within the edges. -/
def cnt (N : Nat) (f : Int → Int → Bool) : Int := S N fun i => S N fun j => one (f ((i : Int) - 16777216) ((j : Int) - 16777216))
theorem cnt_congr {N : Nat} {f g : Int → Int → Bool} (h : ∀ x y, f x y = g x y) : cnt N f = cnt N g := S_congr fun i _ => S_congr fun j _ => by rw [h]
theorem cnt_two {N : Nat} {f g p q : Int → Int → Bool} (h : ∀ x y, one (f x y) + one (g x y) = one (p x y) + one (q x y)) : cnt N f + cnt N g = cnt N p + cnt N q := by
  unfold cnt
  rw [← S_add, ← S_add]
  refine S_congr fun i _ => ?_
  rw [← S_add, ← S_add]
  exact S_congr fun j _ => h _ _
theorem cnt_none (N : Nat) : cnt N (fun _ _ => false) = 0 := by
  unfold cnt
  rw [S_congr (g' := fun _ => 0) fun i _ => by rw [show (fun _ : Nat => one false) = fun _ => 0 from rfl, S_zero], S_zero]
theorem cnt_rect {N : Nat} (hN : N = 33554432) {r : Rc} (k : Ck r) : cnt N (has r) = r.w * r.h := by
  obtain ⟨k1, k2, k3, k4, k5, k6⟩ := k
  have e : ∀ i j : Nat, one (has r ((i : Int) - 16777216) ((j : Int) - 16777216)) = one (decide (r.y + 16777216 ≤ (j : Int)) && decide ((j : Int) < r.y + 16777216 + r.h)) * one (decide (r.x + 16777216 ≤ (i : Int)) && decide ((i : Int) < r.x + 16777216 + r.w)) := fun i j => by
    have : has r ((i : Int) - 16777216) ((j : Int) - 16777216) = ((decide (r.y + 16777216 ≤ (j : Int)) && decide ((j : Int) < r.y + 16777216 + r.h)) && (decide (r.x + 16777216 ≤ (i : Int)) && decide ((i : Int) < r.x + 16777216 + r.w))) := by
      rw [Bool.eq_iff_iff, has_iff]
      simp only [Bool.and_eq_true, decide_eq_true_eq]
      omega
    rw [this]
    cases (decide (r.y + 16777216 ≤ (j : Int)) && decide ((j : Int) < r.y + 16777216 + r.h)) <;> cases (decide (r.x + 16777216 ≤ (i : Int)) && decide ((i : Int) < r.x + 16777216 + r.w)) <;> rfl
  unfold cnt
  rw [S_congr (g' := fun i => one (decide (r.x + 16777216 ≤ (i : Int)) && decide ((i : Int) < r.x + 16777216 + r.w)) * r.h) fun i _ => by
    rw [S_congr fun j _ => e i j, S_mul, S_span (by omega) (by omega), Int.mul_comm]
    congr 1
    omega]
  rw [S_mul, S_span (by omega) (by omega)]
  congr 1
  omega

def area (l : List Rc) : Int := (l.map fun r => r.w * r.h).sum
theorem area_cons (r : Rc) (l : List Rc) : area (r :: l) = r.w * r.h + area l := by simp [area]
theorem area_cnt {N : Nat} (hN : N = 33554432) : ∀ {l : List Rc}, Bands l → area l = cnt N (pt l)
  | [], _ => by
    rw [show pt [] = fun _ _ => false from rfl, cnt_none]
    rfl
  | r :: l, h => by
    have h' : Bands l := ⟨fun a ha => h.ck a (by simp [ha]), (List.pairwise_cons.1 h.aft).2⟩
    rw [area_cons, area_cnt hN h', ← cnt_rect hN (h.ck r (by simp))]
    have := cnt_two (N := N) (f := has r) (g := pt l) (p := pt (r :: l)) (q := fun _ _ => false) fun x y => by
      rw [pt_cons]
      cases h1 : has r x y
      · cases pt l x y <;> rfl
      · cases h2 : pt l x y
        · rfl
        · obtain ⟨a, ha, h3⟩ := pt_iff.1 h2
          rw [has_iff] at h1 h3
          have h4 := (List.pairwise_cons.1 h.aft).1 a ha
          rcases h4 with ⟨_, _, _⟩ | _ <;> omega
    rw [this, cnt_none, Int.add_zero]
theorem area_low {l : List Rc} (hk : ∀ r ∈ l, Ck r) : 0 ≤ area l ∧ area l ≤ l.length * 1125899906842624 := by
  induction l with
  | nil => exact ⟨Int.le_refl _, Int.le_refl _⟩
  | cons r l ih =>
    have h1 := ih fun a ha => hk a (by simp [ha])
    obtain ⟨k1, k2, k3, k4, k5, k6⟩ := hk r (by simp)
    rw [area_cons, List.length_cons]
    have h2 : r.w * r.h ≤ 33554432 * 33554432 := Int.mul_le_mul (by omega) (by omega) (by omega) (by omega)
    have h3 : 0 ≤ r.w * r.h := Int.mul_nonneg (by omega) (by omega)
    omega

/-- A list without doubles, of members of another one, is not longer. -/
theorem nodup_len {α : Type} [DecidableEq α] : ∀ {l m : List α}, l.Nodup → (∀ a ∈ l, a ∈ m) → l.length ≤ m.length
  | [], _, _, _ => Nat.zero_le _
  | a :: l, m, hn, hs => by
    rw [List.nodup_cons] at hn
    have ha := hs a (by simp)
    have := nodup_len (l := l) (m := m.erase a) hn.2 fun b hb => (List.mem_erase_of_ne (fun e => hn.1 (by rw [← e]; exact hb))).2 (hs b (by simp [hb]))
    rw [List.length_erase_of_mem ha] at this
    have := List.length_pos_of_mem ha
    rw [List.length_cons]
    omega
theorem grid_len {X Y : List Int} {l : List Rc} (h : Bands l) (g : Grid X Y l) : l.length ≤ X.length * Y.length := by
  have h1 : (l.map fun r => (r.x, r.y)).Nodup := by
    rw [List.nodup_iff_pairwise_ne, List.pairwise_map]
    refine h.aft.imp_of_mem fun {a b} ha hb hr e => ?_
    have k1 := (h.ck a ha).w
    have k2 := (h.ck a ha).h
    simp only [Prod.mk.injEq] at e
    rcases hr with ⟨_, _, _⟩ | _ <;> omega
  have h2 := nodup_len (m := X.flatMap fun x => Y.map fun y => (x, y)) h1 fun p hp => by
    obtain ⟨r, hr, rfl⟩ := List.mem_map.1 hp
    obtain ⟨g1, _, g3, _⟩ := g.all r hr
    exact List.mem_flatMap.2 ⟨r.x, g1, List.mem_map.2 ⟨r.y, g3, rfl⟩⟩
  rw [List.length_map] at h2
  refine Nat.le_trans h2 (Nat.le_of_eq ?_)
  clear h1 h2 g h
  induction X with
  | nil => simp
  | cons x X ih => rw [List.flatMap_cons, List.length_append, List.length_map, ih, List.length_cons, Nat.add_mul]; omega
theorem Grid.mono {X Y X' Y' : List Int} {l : List Rc} (g : Grid X Y l) (hX : ∀ x ∈ X, x ∈ X') (hY : ∀ y ∈ Y, y ∈ Y') : Grid X' Y' l := ⟨fun r hr => by
  obtain ⟨h1, h2, h3, h4⟩ := g.all r hr
  exact ⟨hX _ h1, hX _ h2, hY _ h3, hY _ h4⟩⟩
theorem Grid.append {X Y : List Int} {a b : List Rc} (ga : Grid X Y a) (gb : Grid X Y b) : Grid X Y (a ++ b) := ⟨fun r hr => by
  rcases List.mem_append.1 hr with hr | hr
  · exact ga.all r hr
  · exact gb.all r hr⟩
theorem grid_mk {f : Bool → Bool → Bool} {a b : List Rc} (hf : f false false = false) (ha : ∀ r ∈ a, Ck r) (hb : ∀ r ∈ b, Ck r) {X Y : List Int} (ga : Grid X Y a) (gb : Grid X Y b) : Grid X Y (mk f a b) := by
  refine (mk_all hf ha hb).2.2.mono (fun x hx => ?_) (fun y hy => ?_)
  · obtain ⟨r, hr, h⟩ := xs_mem.1 hx
    obtain ⟨h1, h2, _, _⟩ := (ga.append gb).all r hr
    rcases h with rfl | rfl
    · exact h1
    · exact h2
  · obtain ⟨r, hr, h⟩ := ys_mem.1 hy
    obtain ⟨_, _, h1, h2⟩ := (ga.append gb).all r hr
    rcases h with rfl | rfl
    · exact h1
    · exact h2

/-- A rectangle's region. -/
def ofl (r : Rc) : List Rc := if emp (bnd r) = true then [] else [bnd r]
theorem bnd_cases (r : Rc) : emp (bnd r) = true ∨ Ck (bnd r) := by
  cases he : emp r
  · rw [bnd_full he, oft]
    split
    · exact .inl rfl
    · rename_i h
      unfold ed at h ⊢
      refine .inr ⟨?_, ?_, ?_, ?_, ?_, ?_⟩ <;> simp only <;> (repeat' split at h) <;> (repeat' split) <;> omega
  · rw [bnd_emp he]; exact .inl rfl
theorem reg_nil : Reg [] := ⟨by simp, by simp, by simp⟩
theorem reg_one {r : Rc} (k : Ck r) : Reg [r] := by
  have := k.w
  have := k.h
  refine ⟨by simpa using k, by simp, fun a ha => ⟨r.x, ?_⟩⟩
  simp only [List.mem_singleton] at ha
  subst ha
  have h1 : pt [a] a.x a.y = true := pt_iff.2 ⟨a, by simp, has_iff.2 ⟨by omega, by omega, by omega, by omega, by omega, by omega⟩⟩
  have h2 : pt [a] a.x (a.y - 1) = false := by
    rw [pt_no]
    intro b hb
    simp only [List.mem_singleton] at hb
    subst hb
    cases hh : has b b.x (b.y - 1)
    · rfl
    · rw [has_iff] at hh; omega
  rw [h1, h2]
  decide
theorem ofl_reg (r : Rc) : Reg (ofl r) := by
  unfold ofl
  rcases bnd_cases r with h | h
  · rw [if_pos h]; exact reg_nil
  · rw [if_neg (by rw [h.emp]; decide)]; exact reg_one h
theorem ofl_grid (r : Rc) : Grid [(bnd r).x, (bnd r).x + (bnd r).w] [(bnd r).y, (bnd r).y + (bnd r).h] (ofl r) := ⟨fun a ha => by
  unfold ofl at ha
  split at ha
  · cases ha
  · simp only [List.mem_singleton] at ha
    subst ha
    simp⟩
theorem ofl_length (r : Rc) : (ofl r).length ≤ 1 := by
  unfold ofl
  split <;> simp

def sub (p q : Bool) : Bool := p && !q
/-- The region of a few rectangles. -/
def md (g : Nat → Rc) : Nat → List Rc
  | 0 => []
  | i + 1 => mk (if i % 3 = 2 then sub else or) (md g i) (ofl (g i))
theorem fOf (i : Nat) : (if i % 3 = 2 then sub else or) false false = false := by split <;> rfl
theorem md_reg (g : Nat → Rc) : ∀ i, Reg (md g i)
  | 0 => reg_nil
  | i + 1 => (mk_all (fOf i) (md_reg g i).ck (ofl_reg _).ck).1
theorem md_grid (g : Nat → Rc) : ∀ i, ∃ X Y, Grid X Y (md g i) ∧ X.length = 2 * i ∧ Y.length = 2 * i ∧ (∀ x ∈ X, ∃ j < i, x = (bnd (g j)).x ∨ x = (bnd (g j)).x + (bnd (g j)).w) ∧ (∀ y ∈ Y, ∃ j < i, y = (bnd (g j)).y ∨ y = (bnd (g j)).y + (bnd (g j)).h)
  | 0 => ⟨[], [], ⟨by simp [md]⟩, rfl, rfl, by simp, by simp⟩
  | i + 1 => by
    obtain ⟨X, Y, h, hx, hy, gx, gy⟩ := md_grid g i
    refine ⟨(bnd (g i)).x :: ((bnd (g i)).x + (bnd (g i)).w) :: X, (bnd (g i)).y :: ((bnd (g i)).y + (bnd (g i)).h) :: Y, ?_, by simp [hx]; omega, by simp [hy]; omega, ?_, ?_⟩
    · exact grid_mk (fOf i) (md_reg g i).ck (ofl_reg _).ck (h.mono (fun x hx => by simp [hx]) (fun y hy => by simp [hy])) ((ofl_grid (g i)).mono (fun x hx => by simp at hx ⊢; rcases hx with h | h <;> simp [h]) (fun y hy => by simp at hy ⊢; rcases hy with h | h <;> simp [h]))
    · intro x hx
      rcases List.mem_cons.1 hx with h | hx
      · exact ⟨i, by omega, .inl h⟩
      · rcases List.mem_cons.1 hx with h | hx
        · exact ⟨i, by omega, .inr h⟩
        · obtain ⟨j, hj, h⟩ := gx x hx
          exact ⟨j, by omega, h⟩
    · intro x hx
      rcases List.mem_cons.1 hx with h | hx
      · exact ⟨i, by omega, .inl h⟩
      · rcases List.mem_cons.1 hx with h | hx
        · exact ⟨i, by omega, .inr h⟩
        · obtain ⟨j, hj, h⟩ := gy x hx
          exact ⟨j, by omega, h⟩
theorem md_len (g : Nat → Rc) (i : Nat) (hi : i ≤ 7) : (md g i).length ≤ 196 := by
  obtain ⟨X, Y, h, hx, hy, _, _⟩ := md_grid g i
  refine Nat.le_trans (grid_len (md_reg g i).bands h) ?_
  rw [hx, hy]
  exact Nat.le_trans (Nat.mul_le_mul (show 2 * i ≤ 14 by omega) (show 2 * i ≤ 14 by omega)) (by decide)

/-- Moved, each cut to the field, those that have points. -/
def shl (l : List Rc) (u v : Int) : List Rc := (l.map fun r => bnd (sh r u v)).filter fun r => !emp r
theorem bnd_sh {r : Rc} (k : Ck r) (u v : Int) (h : emp (bnd (sh r u v)) = false) : bnd (sh r u v) = ⟨max (r.x + u) (-16777216), max (r.y + v) (-16777216), min (r.x + u + r.w) 16777216 - max (r.x + u) (-16777216), min (r.y + v + r.h) 16777216 - max (r.y + v) (-16777216)⟩ := by
  have e : sh r u v = ⟨r.x + u, r.y + v, r.w, r.h⟩ := by rw [sh, if_neg (by rw [k.emp]; decide)]
  have he : emp (sh r u v) = false := by rw [e]; exact k.emp
  rw [bnd_full he] at h ⊢
  rw [oft] at h ⊢
  split
  · rename_i hh
    rw [if_pos hh] at h
    cases h
  · rw [e]
    simp only [ed]
    have e1 : ∀ a : Int, (if a ≤ 16777216 then a else 16777216) = min a 16777216 := fun a => by split <;> omega
    rw [e1, e1]
theorem shl_bands {l : List Rc} (h : Bands l) (u v : Int) : Bands (shl l u v) := by
  refine ⟨fun r hr => ?_, ?_⟩
  · obtain ⟨h1, h2⟩ := List.mem_filter.1 hr
    obtain ⟨a, ha, rfl⟩ := List.mem_map.1 h1
    rcases bnd_cases (sh a u v) with h3 | h3
    · rw [h3] at h2; cases h2
    · exact h3
  · have h1 : (l.map fun r => bnd (sh r u v)).Pairwise fun s s' => emp s = false → emp s' = false → Aft s s' := by
      rw [List.pairwise_map]
      refine h.aft.imp_of_mem fun {a b} ha hb hr e1 e2 => ?_
      rw [bnd_sh (h.ck a ha) u v e1, bnd_sh (h.ck b hb) u v e2]
      rcases hr with ⟨g1, g2, g3⟩ | g1
      · exact .inl ⟨by simp only; omega, by simp only; omega, by simp only; omega⟩
      · exact .inr (by simp only; omega)
    rw [shl]
    refine (h1.filter _).imp_of_mem fun {a b} ha hb hr => ?_
    have g1 := (List.mem_filter.1 ha).2
    have g2 := (List.mem_filter.1 hb).2
    exact hr (by simpa using g1) (by simpa using g2)
theorem shl_length (l : List Rc) (u v : Int) : (shl l u v).length ≤ l.length := by
  rw [shl]
  exact Nat.le_trans (List.length_filter_le _ _) (by rw [List.length_map]; exact Nat.le_refl _)
def fst1 (p _q : Bool) : Bool := p
theorem mk_alone {a : List Rc} (ha : ∀ r ∈ a, Ck r) : mk fst1 a [] = mk or a [] := by
  obtain ⟨h1, h2, _⟩ := mk_all (f := or) (a := a) (b := []) rfl ha (by simp)
  obtain ⟨h3, h4, _⟩ := mk_all (f := fst1) (a := a) (b := []) rfl ha (by simp)
  exact reg_eq h3 h1 fun x y => by rw [h2, h4, pt_nil, Bool.or_false]; rfl

/-- Moved, where nothing is cut. -/
def tr (u v : Int) (r : Rc) : Rc := ⟨r.x + u, r.y + v, r.w, r.h⟩
theorem shl_tr {l : List Rc} (hk : ∀ r ∈ l, Ck r) {u v : Int} (hk' : ∀ r ∈ l, Ck (tr u v r)) : shl l u v = l.map (tr u v) := by
  have e : ∀ r ∈ l, bnd (sh r u v) = tr u v r := fun r hr => by
    have e0 : sh r u v = tr u v r := by rw [sh, if_neg (by rw [(hk r hr).emp]; decide)]; rfl
    have k := hk' r hr
    have he : emp (tr u v r) = false := k.emp
    obtain ⟨k1, k2, k3, k4, k5, k6⟩ := k
    rw [e0, bnd_full he]
    simp only [tr] at k1 k2 k3 k4 k5 k6 ⊢
    rw [oft, if_neg (by unfold ed; (repeat' split) <;> omega)]
    unfold ed
    rw [if_pos (by omega), if_pos (by omega)]
    simp only [Rc.mk.injEq]
    omega
  rw [shl, List.map_congr_left e, filter_whole]
  intro a ha
  obtain ⟨r, hr, rfl⟩ := List.mem_map.1 ha
  rw [(hk' r hr).emp]
  rfl
theorem pt_tr (l : List Rc) (u v x y : Int) : pt (l.map (tr u v)) x y = pt l (x - u) (y - v) := by
  rw [Bool.eq_iff_iff, pt_iff, pt_iff]
  constructor
  · rintro ⟨a, ha, h⟩
    obtain ⟨r, hr, rfl⟩ := List.mem_map.1 ha
    rw [has_iff] at h
    simp only [tr] at h
    exact ⟨r, hr, has_iff.2 (by omega)⟩
  · rintro ⟨r, hr, h⟩
    rw [has_iff] at h
    exact ⟨_, List.mem_map.2 ⟨r, hr, rfl⟩, has_iff.2 (by simp only [tr]; omega)⟩
theorem reg_tr {l : List Rc} (h : Reg l) {u v : Int} (hk' : ∀ r ∈ l, Ck (tr u v r)) : Reg (l.map (tr u v)) := by
  refine ⟨fun a ha => ?_, ?_, fun a ha => ?_⟩
  · obtain ⟨r, hr, rfl⟩ := List.mem_map.1 ha
    exact hk' r hr
  · rw [List.pairwise_map]
    refine h.aft.imp fun {a b} hr => ?_
    rcases hr with ⟨g1, g2, g3⟩ | g1
    · exact .inl ⟨by simp only [tr]; omega, by simp only [tr]; omega, by simp only [tr]; omega⟩
    · exact .inr (by simp only [tr]; omega)
  · obtain ⟨r, hr, rfl⟩ := List.mem_map.1 ha
    obtain ⟨x, hx⟩ := h.top r hr
    refine ⟨x + u, ?_⟩
    rw [pt_tr, pt_tr]
    simp only [tr]
    rw [show x + u - u = x by omega, show r.y + v - 1 - v = r.y - 1 by omega, show r.y + v - v = r.y by omega]
    exact hx
/-- A region, moved where nothing is cut. -/
theorem mk_tr {l : List Rc} (h : Reg l) {u v : Int} (hk' : ∀ r ∈ l, Ck (tr u v r)) : mk or (shl l u v) [] = l.map (tr u v) := by
  rw [shl_tr h.ck hk']
  exact (mk_reg (reg_tr h hk').ck).2 (reg_tr h hk')
theorem area_tr (l : List Rc) (u v : Int) : area (l.map (tr u v)) = area l := by
  rw [area, area, List.map_map]
  rfl

end Go.Proofs.YtmiapccngeafkaaDoor
