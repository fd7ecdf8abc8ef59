/- Slices of arguments; the contract of the program's wire.Check. -/
import Derived.Test.YtoggnfadfocogaaDoorWireA
import Derived.Deep.RegionHeldLaw
namespace Go.Proofs.YtoggnfadfocogaaDoor
open Go Go.RowKit

/-- An argument: its kind, its number, its text. -/
structure AV where
  k : Nat
  n : Int
  s : ByteArray

def AV.t (x : AV) : List UInt8 := x.s.data.toList
def AV.v (x : AV) : Value := .agg #[.int .u8 x.k, .int .i64 x.n, .string x.s]
/-- Its cells. -/
def ac (x : AV) : List Value := [.int .u8 x.k, .int .i64 x.n, .string x.s]
def acs (l : List AV) : List Value := l.flatMap ac

/-- What Go's types say of it. -/
structure AV.Ok (x : AV) : Prop where
  k : x.k < 256
  lo : -9223372036854775808 ≤ x.n
  hi : x.n ≤ 9223372036854775807
  s : x.s.size ≤ maxLen

theorem acs_length (l : List AV) : (acs l).length = l.length * 3 := by
  induction l with
  | nil => rfl
  | cons x l ih =>
    rw [acs, List.flatMap_cons, List.length_append, List.length_cons]
    show 3 + (acs l).length = _
    omega
theorem acs_append (a b : List AV) : acs (a ++ b) = acs a ++ acs b := by simp [acs]
theorem acs_one (l : List AV) : ∀ u ∈ acs l, u.oneCell' = true := by
  intro u hu
  obtain ⟨x, _, hx⟩ := List.mem_flatMap.1 hu
  simp only [ac, List.mem_cons, List.not_mem_nil, or_false] at hx
  rcases hx with rfl | rfl | rfl <;> rfl

theorem acs_at (l : List AV) (j : Nat) (x : AV) (h : l[j]? = some x) : (acs l)[j * 3]? = some (.int .u8 x.k) ∧ (acs l)[j * 3 + 1]? = some (.int .i64 x.n) ∧ (acs l)[j * 3 + 2]? = some (.string x.s) := by
  induction l generalizing j with
  | nil => simp at h
  | cons y l ih =>
    have e : acs (y :: l) = .int .u8 y.k :: .int .i64 y.n :: .string y.s :: acs l := rfl
    cases j with
    | zero =>
      simp only [List.getElem?_cons_zero, Option.some.injEq] at h
      subst h
      rw [e]
      exact ⟨rfl, rfl, rfl⟩
    | succ j =>
      obtain ⟨h1, h2, h3⟩ := ih j (by simpa using h)
      rw [e, show (j + 1) * 3 = j * 3 + 1 + 1 + 1 by omega]
      simp only [List.getElem?_cons_succ]
      exact ⟨h1, h2, h3⟩

/-- A slice whose first n elements are the arguments l. -/
structure RdA (w : World) (a : Option Addr) (n c : Nat) (l : List AV) : Prop where
  len : l.length = n
  le : n ≤ c
  max : c ≤ maxLen
  hnil : a = none → c = 0
  cells : ∀ x, a = some x → ∀ j u, (acs l)[j]? = some u → w.cell? (x.add j) = some u
  wf : ∀ x ∈ l, x.Ok

theorem RdA.nil (w : World) : RdA w none 0 0 [] := ⟨rfl, Nat.le_refl _, Nat.zero_le _, fun _ => rfl, (fun _ h => by cases h), fun _ h => by cases h⟩

theorem RdA.plain {w : World} {a : Option Addr} {n c : Nat} {l : List AV} (h : RdA w a n c l) (hn : 0 < n) : ∃ b off, a = some ⟨b, off, none⟩ ∧ b < w.heap.size ∧
    ∀ j x, l[j]? = some x → w.cell? ⟨b, off + j * 3, none⟩ = some (.int .u8 x.k) ∧ w.cell? ⟨b, off + j * 3 + 1, none⟩ = some (.int .i64 x.n) ∧ w.cell? ⟨b, off + j * 3 + 2, none⟩ = some (.string x.s) := by
  cases a with
  | none => have := h.hnil rfl; have := h.le; omega
  | some x =>
    obtain ⟨b, off, spot⟩ := x
    have hl := h.len
    obtain ⟨y, hy⟩ : ∃ y, l[0]? = some y := ⟨_, List.getElem?_eq_getElem (by omega)⟩
    have h0 := h.cells _ rfl 0 _ (acs_at l 0 y hy).1
    have hspot : spot = none := by simpa [Addr.add] using World.cell?_spot h0
    subst hspot
    refine ⟨b, off, rfl, World.block_lt_of_cell? w _ (by simpa [Addr.add] using h0), fun j x hx => ?_⟩
    obtain ⟨h1, h2, h3⟩ := acs_at l j x hx
    have e1 := h.cells _ rfl _ _ h1
    have e2 := h.cells _ rfl _ _ h2
    have e3 := h.cells _ rfl _ _ h3
    rw [Go.WideShapes.add_plain] at e1 e2 e3
    exact ⟨e1, e2, e3⟩

theorem RdA.below {w w' : World} {B : Nat} {a : Option Addr} {n c : Nat} {l : List AV} (h : RdA w a n c l) (hb : Below B w w') (ha : ∀ x, a = some x → 0 < l.length → x.block < B) : RdA w' a n c l :=
  ⟨h.len, h.le, h.max, h.hnil, fun x hx j u hu => by
    have hj : j < l.length * 3 := by
      rcases Nat.lt_or_ge j (l.length * 3) with h' | h'
      · exact h'
      · rw [List.getElem?_eq_none (by rw [acs_length]; exact h')] at hu; cases hu
    rw [hb.cell (p := x.add j) (by have := ha x hx (by omega); unfold Addr.add; split <;> simpa using this)]
    exact h.cells x hx j u hu, h.wf⟩

theorem RdA.low {w : World} {a : Option Addr} {n c : Nat} {l : List AV} (h : RdA w a n c l) : ∀ x, a = some x → 0 < l.length → x.block < w.heap.size := fun x hx hl => by
  have hl' := h.len
  obtain ⟨b, off, rfl, hb, _⟩ := h.plain (by omega)
  cases hx
  exact hb

/-- What is appended by 'append(x, l...)'. -/
theorem RdA.src {P : Program} {w : World} {a : Option Addr} {n c : Nat} {l : List AV} (h : RdA w a n c l) {t e : TypeId} (ht : P.underlying t = some (.slice e)) : Src P 3 t (.slice a n c) n (acs l) w := by
  cases a with
  | none =>
    have h1 := h.hnil rfl
    have h2 := h.le
    have h3 := h.len
    obtain rfl : n = 0 := by omega
    obtain rfl : l = [] := List.eq_nil_of_length_eq_zero h3
    exact Src.ofNil w ht c
  | some x => exact Src.ofSlice w ht x n c (acs l) (by rw [acs_length, h.len]) (h.cells x rfl) (acs_one l)

theorem rda_of_owns {w : World} {base e n : Nat} {v : Value} {l : List AV} (h : w.ownsRow base e 3 v n (acs l)) (hw : ∀ x ∈ l, x.Ok) : ∃ a c, v = .slice a n c ∧ RdA w a n c l ∧ (∀ x, a = some x → base ≤ x.block ∧ x.block < w.heap.size) := by
  have hl : l.length = n := by have := h.1; rw [acs_length] at this; omega
  rcases h.2 with ⟨rfl, rfl⟩ | ⟨g, cap, cur, rfl, hb, hg, hn, hm, _, _⟩
  · obtain rfl : l = [] := List.eq_nil_of_length_eq_zero hl
    exact ⟨none, 0, rfl, RdA.nil w, fun x hx => by cases hx⟩
  · refine ⟨some ⟨g, 0, none⟩, cap, rfl, ⟨hl, hn, hm, (fun h => by cases h), fun x hx => ?_, hw⟩, fun x hx => ?_⟩
    · cases hx
      exact h.cells rfl
    · cases hx
      exact ⟨hb, (Array.getElem?_eq_some_iff.1 hg).1⟩

/-- None of the texts is too great for a machine. -/
def Small (l : List AV) : Prop := ∀ x ∈ l, x.s.size ≤ 140737488355328

/-! Check's answer. -/
def okArgs : List AV → List UInt8 → Bool
  | [], [] => true
  | x :: l, z :: s => okArg x.k x.n x.t z.toNat && okArgs l s
  | _, _ => false
def headOk (o p : Int) : Bool := decide (1 ≤ o) && (decide (o ≤ 4294967295) && (decide (0 ≤ p) && decide (p ≤ 65535)))
def chk (o p : Int) (l : List AV) (s : List UInt8) : Bool := headOk o p && okArgs l s

theorem okArgs_length : ∀ (l : List AV) (s : List UInt8), okArgs l s = true → l.length = s.length
  | [], [], _ => rfl
  | x :: l, z :: s, h => by
    rw [okArgs, Bool.and_eq_true] at h
    rw [List.length_cons, List.length_cons, okArgs_length l s h.2]
  | [], _ :: _, h => by cases h
  | _ :: _, [], h => by cases h

/-- Where the first ones are such, it hangs on the others. -/
theorem okArgs_drop (l : List AV) (s : List UInt8) (hl : l.length = s.length) (j : Nat) (hj : j ≤ l.length) (h : ∀ (i : Nat) (x : AV) (z : UInt8), i < j → l[i]? = some x → s[i]? = some z → okArg x.k x.n x.t z.toNat = true) : okArgs l s = okArgs (l.drop j) (s.drop j) := by
  induction j generalizing l s with
  | zero => rfl
  | succ j ih =>
    match l, s, hl with
    | [], [], _ => simp at hj
    | x :: l, z :: s, hl =>
      rw [okArgs, h 0 x z (by omega) rfl rfl, Bool.true_and, List.drop_succ_cons, List.drop_succ_cons]
      exact ih l s (by simpa using hl) (by simpa using hj) (fun i x z hi hx hz => h (i + 1) x z (by omega) (by simpa using hx) (by simpa using hz))

theorem okArgs_all (l : List AV) (s : List UInt8) (hl : l.length = s.length) (h : ∀ (i : Nat) (x : AV) (z : UInt8), i < l.length → l[i]? = some x → s[i]? = some z → okArg x.k x.n x.t z.toNat = true) : okArgs l s = true := by
  rw [okArgs_drop l s hl l.length (Nat.le_refl _) h, List.drop_length, hl, List.drop_length]
  rfl

theorem okArgs_not (l : List AV) (s : List UInt8) (j : Nat) (x : AV) (z : UInt8) (hx : l[j]? = some x) (hz : s[j]? = some z) (h : okArg x.k x.n x.t z.toNat = false) : okArgs l s = false := by
  induction j generalizing l s with
  | zero =>
    match l, s with
    | [], _ => simp at hx
    | _ :: _, [] => simp at hz
    | y :: l, c :: s =>
      simp only [List.getElem?_cons_zero, Option.some.injEq] at hx hz
      subst hx hz
      rw [okArgs, h, Bool.false_and]
  | succ j ih =>
    match l, s with
    | [], _ => simp at hx
    | _ :: _, [] => simp at hz
    | y :: l, c :: s =>
      rw [okArgs, ih l s (by simpa using hx) (by simpa using hz), Bool.and_false]

/-- ErrArg's number, where it is not such. -/
def noB : Bool → Nat
  | true => 0
  | false => 1

/-- An error of the k-th kind: itself, or wrapped with an argument's place. -/
def fnd (v : Value) (i : Int) : Value := .iface 69 (.agg #[v, .int .i64 i])
def Er (es : List Addr) (r : Value) (k : Nat) : Prop := r = erv es k ∨ (k ≠ 0 ∧ ∃ i, r = fnd (erv es k) i)

theorem Er.nil {es : List Addr} {r : Value} (h : Er es r 0) : r = .nilIface := by
  rcases h with rfl | ⟨h, _⟩
  · rfl
  · exact absurd rfl h

theorem Er.some {es : List Addr} {r : Value} {k : Nat} (h : Er es r (k + 1)) : ∃ t v, r = .iface t v := by
  rcases h with rfl | ⟨_, i, rfl⟩
  · exact ⟨_, _, rfl⟩
  · exact ⟨_, _, rfl⟩

theorem Below.on {w w1 w2 : World} (h : Below w.heap.size w w1) (h2 : Below w1.heap.size w1 w2) : Below w.heap.size w w2 := h.trans (h2.mono h.size)

theorem wpAnyH_mono {P : Program} {md : Region.Mode} {ops : Array Oper} {Q : Exit → Act → World → Prop} {S S' : World → Prop} (h : ∀ x, S' x → S x) : ∀ {fuel : Nat} {listed : Array Bool} {a : Act} {w : World}, wpAnyH P md ops Q S' fuel listed a w → wpAnyH P md ops Q S fuel listed a w
  | 0, _, _, _, hh => hh
  | _ + 1, _, _, _, hh => ⟨hh.1, fun i hi => wpOp_mono (fun _ _ q => ⟨h _ q.1, wpAnyH_mono h q.2⟩) (hh.2 i hi)⟩

theorem ownsRow_low {w : World} {base base' e size n : Nat} {v : Value} {xs : List Value} (h : w.ownsRow base e size v n xs) (hb : base' ≤ base) : w.ownsRow base' e size v n xs := by
  refine ⟨h.1, ?_⟩
  rcases h.2 with q | ⟨g, cap, cur, e1, e2, e3⟩
  · exact .inl q
  · exact .inr ⟨g, cap, cur, e1, by omega, e3⟩

theorem ownsRow_below {w w' : World} {base e size n : Nat} {v : Value} {xs : List Value} (h : w.ownsRow base e size v n xs) (hb : Below w.heap.size w w') : w'.ownsRow base e size v n xs := by
  refine ⟨h.1, ?_⟩
  rcases h.2 with q | ⟨g, cap, cur, e1, e2, e3, e4⟩
  · exact .inl q
  · exact .inr ⟨g, cap, cur, e1, e2, by rw [hb.block _ (Array.getElem?_eq_some_iff.1 e3).1]; exact e3, e4⟩

theorem below_drewN {u v : World} {B : Nat} (h : Below B u v) (q : Nat) : Below B u (v.drewN q) := ⟨h.os, h.tape, h.output, h.size, h.block⟩

theorem str_at (s : ByteArray) (j : Nat) (hj : j < s.size) : s.data.toList[j]? = some s[j] := by
  have h : j < s.data.toList.length := by rw [size_toList]; exact hj
  rw [List.getElem?_eq_getElem h]
  rfl
end Go.Proofs.YtoggnfadfocogaaDoor
