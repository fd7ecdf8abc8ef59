/- Slices of structs of numbers, as they come in: opened. Over any program. -/
import Derived.Test.YtmcbbpcbebbjdaaDoorLibK
import Derived.Lib.SmallJoins
import Derived.OpenShut
import Derived.ShutString
import Derived.ChangeOld
import Derived.SizedLaws
namespace Go.Proofs.YtmcbbpcbebbjdaaDoor
open Go Go.ChangeShapes Go.WideShapes Go.ChangeAt Go.RowKit Go.Deep

/-- A slice whose first n elements are structs of m numbers, l. -/
structure RdN (m : Nat) (w : World) (a : Option Addr) (n c : Nat) (l : List (List Int)) : Prop where
  len : l.length = n
  le : n ≤ c
  max : c ≤ maxLen
  hnil : a = none → c = 0
  cells : ∀ x, a = some x → ∀ j y, l[j]? = some y → ∀ i z, y[i]? = some z → w.cell? (x.add (j * m + i)) = some (.int .i64 z)
  size : ∀ y ∈ l, y.length = m
  wf : ∀ y ∈ l, ∀ z ∈ y, (Lit.int .i64 z).wf = true

/-- A struct of numbers alone, a cell each. -/
def numsB (P : Program) (fs : Array Field) : Bool := (List.range fs.size).all fun i => match fs[i]? with
  | some f => decide (f.offset = i) && decide (P.cellsOf f.type = 1) && (match P.underlying f.type with | some (.int .i64) => true | _ => false)
  | none => false

def numOf : Value → Int
  | .int _ a => a
  | _ => 0

variable {H : Type} {enc : TypeId × Value → H} {W : World} {P : Program}

theorem numsB_at {fs : Array Field} (h : numsB P fs = true) {i : Nat} {f : Field} (hi : fs[i]? = some f) : f.offset = i ∧ P.cellsOf f.type = 1 ∧ P.underlying f.type = some (.int .i64) := by
  have hlt : i < fs.size := (Array.getElem?_eq_some_iff.1 hi).1
  have := List.all_eq_true.1 h i (List.mem_range.2 hlt)
  rw [hi] at this
  simp only [Bool.and_eq_true, decide_eq_true_eq] at this
  refine ⟨this.1.1, this.1.2, ?_⟩
  have h3 := this.2
  split at h3
  · assumption
  · cases h3

theorem open_nums {t : TypeId} {fs : Array Field} (ht : P.underlying t = some (.struct fs)) (hc : P.cellsOf t = fs.size) (hf : numsB P fs = true) {n : Nat} {cs : List Value} {x : DataW H × List MemPlace}
    (h : DataW.trod enc P W 0 (fun _ => true) true n t cs = some x) : ∃ y : List Int, y.length = fs.size ∧ cs = y.map (Value.int .i64) ∧ ∀ z ∈ y, (Lit.int .i64 z).wf = true := by
  obtain ⟨xs, k, _, _, hl, hlen, hx⟩ := DataW.trod_struct ht h
  rw [hc] at hl
  have each : ∀ i, i < fs.size → ∃ a, cs[i]? = some (.int .i64 a) ∧ (Lit.int .i64 a).wf = true := fun i hi => by
    obtain ⟨f, hfi⟩ : ∃ f, fs[i]? = some f := ⟨_, Array.getElem?_eq_getElem hi⟩
    obtain ⟨h1, h2, h3⟩ := numsB_at hf hfi
    have hd := hx i f (by rw [← Array.getElem?_toList] at hfi; first | exact hfi | simpa using hfi)
    obtain ⟨yi, hyi⟩ : ∃ y, xs[i]? = some y := ⟨_, List.getElem?_eq_getElem (by rw [hlen]; first | exact hi | simpa using hi)⟩
    rw [h1, h2, hyi] at hd
    obtain ⟨a, e0, _, w0⟩ := DataW.trod_int h3 hd
    refine ⟨a, ?_, w0⟩
    have : ((cs.drop i).take 1)[0]? = some (.int .i64 a) := by rw [e0]; rfl
    rw [List.getElem?_take_of_lt (by omega), List.getElem?_drop] at this
    simpa using this
  refine ⟨cs.map numOf, by rw [List.length_map, hl], ?_, fun z hz => ?_⟩
  · apply List.ext_getElem?
    intro i
    rw [List.getElem?_map, List.getElem?_map]
    rcases Nat.lt_or_ge i fs.size with hi | hi
    · obtain ⟨a, h1, _⟩ := each i hi
      rw [h1]
      rfl
    · rw [List.getElem?_eq_none (by omega)]
      rfl
  · obtain ⟨v, hv, rfl⟩ := List.mem_map.1 hz
    obtain ⟨i, hi⟩ := List.mem_iff_getElem?.1 hv
    have hlt : i < fs.size := by rw [← hl]; exact (List.getElem?_eq_some_iff.1 hi).1
    obtain ⟨a, h1, h2⟩ := each i hlt
    rw [hi] at h1
    cases h1
    exact h2

theorem okWide_nums {t : TypeId} {fs : Array Field} {r : Reach} {b0 : Nat} {v : Value} (ht : P.underlying t = some (.struct fs)) (hc : P.cellsOf t = fs.size) (hf : numsB P fs = true) (hv : Value.okWide P W r b0 t v) {d : DataW H} {p : List MemPlace}
    (h : DataW.Trod enc P W 0 (fun _ => true) true t v d p) : ∃ y : List Int, y.length = fs.size ∧ v = .agg (y.map (Value.int .i64)).toArray ∧ ∀ z ∈ y, (Lit.int .i64 z).wf = true := by
  obtain ⟨cs, rfl, _⟩ := okWide_struct ht hv
  obtain ⟨fuel, hf'⟩ := h
  obtain ⟨y, hy, hcs, hw⟩ := open_nums ht hc hf hf'
  refine ⟨y, hy, ?_, hw⟩
  rw [← hcs]
  simp [Value.cells]

set_option maxRecDepth 100000 in
theorem open_structs {T E : TypeId} {fs : Array Field} {m : Nat} (hT : P.underlying T = some (.slice E)) (ht : P.underlying E = some (.struct fs)) (hm0 : fs.size = m) (hc : P.cellsOf E = m) (hf : numsB P fs = true) {d : DataW H} {p : List MemPlace}
    {a : Option Addr} {n c : Nat} (h : DataW.Trod enc P W 0 (fun _ => true) true T (.slice a n c) d p) : ∃ l, RdN m W a n c l := by
  subst hm0
  obtain ⟨fuel, hf'⟩ := h
  rcases open_slice hT hf' with ⟨hcs, _⟩ | ⟨a, len, cap, mm, k, D, Pl, hcs, hb, hl, hm, hmm, _, hx⟩
  · simp [Value.cells] at hcs
    obtain ⟨rfl, rfl, rfl⟩ := hcs
    exact ⟨[], rfl, Nat.le_refl _, Nat.zero_le _, fun _ => rfl, (fun _ h => by cases h), (fun _ h => by cases h), fun _ h => by cases h⟩
  · simp [Value.cells] at hcs
    obtain ⟨rfl, rfl, rfl⟩ := hcs
    simp only [if_true] at hmm
    subst hmm
    rw [hc] at hx
    have each : ∀ i, i < n → ∃ y : List Int, y.length = fs.size ∧ (∀ z ∈ y, (Lit.int .i64 z).wf = true) ∧ ∀ q z, y[q]? = some z → W.cell? (a.add (i * fs.size + q)) = some (.int .i64 z) := fun i hi => by
      obtain ⟨cs', h1, h2⟩ := hx i (by omega)
      obtain ⟨y, hy, rfl, hw⟩ := open_nums ht hc hf h2
      refine ⟨y, hy, hw, fun q z hq => ?_⟩
      obtain ⟨_, _, hcc⟩ := World.cells?_some h1
      have hlt : q < fs.size := by rw [← hy]; exact (List.getElem?_eq_some_iff.1 hq).1
      have := hcc q hlt
      rw [List.getElem?_map, hq, add_add] at this
      exact this
    obtain ⟨f, hfn⟩ := choose_lt (α := List Int) each
    have mem : ∀ y ∈ (List.range n).map f, ∃ i, i < n ∧ y = f i := fun y hy => by
      obtain ⟨i, hi, rfl⟩ := List.mem_map.1 hy
      exact ⟨i, List.mem_range.1 hi, rfl⟩
    refine ⟨(List.range n).map f, by simp, hl, hm, (fun h => by cases h), fun y hy j z hj q u hu => ?_, fun y hy => ?_, fun y hy => ?_⟩
    · cases hy
      rw [List.getElem?_map] at hj
      obtain ⟨i, hi, rfl⟩ := Option.map_eq_some_iff.1 hj
      have hlt : j < n := by
        rcases Nat.lt_or_ge j n with h' | h'
        · exact h'
        · rw [List.getElem?_eq_none (by simpa using h')] at hi; cases hi
      rw [List.getElem?_range hlt] at hi
      cases hi
      exact (hfn j hlt).2.2 q u hu
    · obtain ⟨i, hi, rfl⟩ := mem y hy
      exact (hfn i hi).1
    · obtain ⟨i, hi, rfl⟩ := mem y hy
      exact (hfn i hi).2.1

/-- An element: where it lies. -/
theorem RdN.at_ {m : Nat} {w : World} {a : Option Addr} {n c : Nat} {l : List (List Int)} (h : RdN m w a n c l) (hm : 0 < m) (j : Nat) (hj : j < n) : ∃ b off y, a = some ⟨b, off, none⟩ ∧ b < w.heap.size ∧ l[j]? = some y ∧ y.length = m ∧ (∀ z ∈ y, -9223372036854775808 ≤ z ∧ z ≤ 9223372036854775807) ∧ ∀ i z, y[i]? = some z → w.cell? ⟨b, off + (j * m + i), none⟩ = some (.int .i64 z) := by
  have hl := h.len
  obtain ⟨y, hy⟩ : ∃ y, l[j]? = some y := ⟨_, List.getElem?_eq_getElem (by omega)⟩
  have hmem := List.mem_of_getElem? hy
  cases a with
  | none => have := h.hnil rfl; have := h.le; omega
  | some x =>
    obtain ⟨b, off, spot⟩ := x
    have hsz := h.size y hmem
    have hspot : spot = none := by
      obtain ⟨y0, hy0⟩ : ∃ y, l[0]? = some y := ⟨_, List.getElem?_eq_getElem (by omega)⟩
      have h0 := h.size y0 (List.mem_of_getElem? hy0)
      have := h.cells _ rfl 0 y0 hy0 0 _ (List.getElem?_eq_getElem (by omega))
      simpa [Addr.add] using World.cell?_spot this
    subst hspot
    have hc := h.cells _ rfl j y hy
    refine ⟨b, off, y, rfl, ?_, hy, hsz, fun z hz => ?_, fun i z hi => ?_⟩
    · have := hc 0 _ (List.getElem?_eq_getElem (by omega))
      rw [Go.WideShapes.add_plain] at this
      exact World.block_lt_of_cell? w _ this
    · have := h.wf y hmem z hz
      simpa [Lit.wf, IntKind.min, IntKind.max, IntKind.signed, IntKind.bits] using this
    · rw [← Go.WideShapes.add_plain]
      exact hc i z hi
end Go.Proofs.YtmcbbpcbebbjdaaDoor
