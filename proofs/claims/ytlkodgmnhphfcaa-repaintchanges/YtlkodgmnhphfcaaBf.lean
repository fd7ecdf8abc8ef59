/- Slices of structs of m numbers, read and of a call's own; children put and found; what a surface has. No program. -/
import Derived.Test.YtlkodgmnhphfcaaBa
import Derived.Test.YtlkodgmnhphfcaaBc
import Derived.Test.YtlkodgmnhphfcaaBb
import Derived.Laws.OwnMore
import Derived.Deep.DeepCutAuto
import Derived.Deep.CutRange
import Derived.Laws.Rows
import Derived.Lib.Builder
import Derived.Shelf.Abstract
import Derived.Test.YtlkodgmnhphfcaaBe
import Derived.Test.YtlkodgmnhphfcaaChecked
import Derived.Laws.StructEq
import Derived.BigQuiet
import Derived.Laws.CopyOwn
namespace Go.Proofs.Ytlkodgmnhphfcaa
open Go Go.RowKit

/-- A slice whose first n elements are structs of m numbers, l. -/
structure RdM (m : Nat) (w : World) (a : Option Addr) (n c : Nat) (l : List (List Int)) : Prop where
  len : l.length = n
  le : n ≤ c
  max : c ≤ maxLen
  hnil : a = none → c = 0
  pl : 0 < n → ∃ b off, a = some ⟨b, off, none⟩ ∧ b < w.heap.size ∧ ∀ j y, l[j]? = some y → ∀ i z, y[i]? = some z → w.cell? ⟨b, off + (j * m + i), none⟩ = some (.int .i64 z)
  size : ∀ y ∈ l, y.length = m

theorem RdM.on {m : Nat} {w u : World} {a : Option Addr} {n c : Nat} {l : List (List Int)} (h : RdM m w a n c l) (hb : Below w.heap.size w u) : RdM m u a n c l :=
  ⟨h.len, h.le, h.max, h.hnil, fun hn => by
    obtain ⟨b, off, e, h1, h2⟩ := h.pl hn
    exact ⟨b, off, e, Nat.lt_of_lt_of_le h1 hb.size, fun j y hy i z hz => by rw [hb.cell h1]; exact h2 j y hy i z hz⟩, h.size⟩
theorem RdM.kp {m : Nat} {w u : World} {a : Option Addr} {n c : Nat} {l : List (List Int)} (h : RdM m w a n c l) {X : List Nat} (hb : Kp X w u) (hX : ∀ x, a = some x → 0 < n → x.block ∉ X) : RdM m u a n c l :=
  ⟨h.len, h.le, h.max, h.hnil, fun hn => by
    obtain ⟨b, off, e, h1, h2⟩ := h.pl hn
    exact ⟨b, off, e, Nat.lt_of_lt_of_le h1 hb.size, fun j y hy i z hz => hb.cell (h2 j y hy i z hz) (hX ⟨b, off, none⟩ e hn)⟩, h.size⟩
theorem RdM.nil (m : Nat) (w : World) : RdM m w none 0 0 [] := ⟨rfl, Nat.le_refl _, Nat.zero_le _, fun _ => rfl, fun h => absurd h (by omega), by simp⟩
theorem RdM.small {m : Nat} {w : World} {a : Option Addr} {n c : Nat} {l : List (List Int)} (h : RdM m w a n c l) : n ≤ 9223372036854775807 ∧ c ≤ 9223372036854775807 := by
  have h1 := h.le
  have h2 := h.max
  simp only [maxLen] at h2
  omega
theorem RdM.drewN {m : Nat} {w : World} {a : Option Addr} {n c : Nat} {l : List (List Int)} (h : RdM m w a n c l) (q : Nat) : RdM m (w.drewN q) a n c l := h.on (below_drewN (Below.refl _ _) q)
theorem RdM.at_ {m : Nat} {w : World} {a : Option Addr} {n c : Nat} {l : List (List Int)} (h : RdM m w a n c l) {j : Nat} (hj : j < n) : ∃ b off y, a = some ⟨b, off, none⟩ ∧ b < w.heap.size ∧ l[j]? = some y ∧ y.length = m ∧ ∀ i z, y[i]? = some z → w.cell? ⟨b, off + (j * m + i), none⟩ = some (.int .i64 z) := by
  have hl := h.len
  obtain ⟨b, off, e, h1, h2⟩ := h.pl (by omega)
  have hr : l[j]? = some l[j] := List.getElem?_eq_getElem (by omega)
  exact ⟨b, off, _, e, h1, hr, h.size _ (List.mem_of_getElem? hr), h2 j _ hr⟩
theorem RdM.el1 {w : World} {a : Option Addr} {n c : Nat} {l : List (List Int)} (h : RdM 1 w a n c l) {j : Nat} (hj : j < n) : ∃ b off z0, a = some ⟨b, off, none⟩ ∧ b < w.heap.size ∧ l[j]? = some [z0] ∧ w.cell? ⟨b, off + j, none⟩ = some (.int .i64 z0) := by
  obtain ⟨b, off, y, e, h1, h2, h3, h4⟩ := h.at_ hj
  match y, h3 with
  | [z0], _ => exact ⟨b, off, z0, e, h1, h2, by simpa using h4 0 z0 rfl⟩
theorem RdM.el3 {w : World} {a : Option Addr} {n c : Nat} {l : List (List Int)} (h : RdM 3 w a n c l) {j : Nat} (hj : j < n) : ∃ b off z0 z1 z2, a = some ⟨b, off, none⟩ ∧ b < w.heap.size ∧ l[j]? = some [z0, z1, z2] ∧ w.cell? ⟨b, off + j * 3, none⟩ = some (.int .i64 z0) ∧ w.cell? ⟨b, off + j * 3 + 1, none⟩ = some (.int .i64 z1) ∧ w.cell? ⟨b, off + j * 3 + 2, none⟩ = some (.int .i64 z2) := by
  obtain ⟨b, off, y, e, h1, h2, h3, h4⟩ := h.at_ hj
  match y, h3 with
  | [z0, z1, z2], _ => exact ⟨b, off, z0, z1, z2, e, h1, h2, by simpa using h4 0 z0 rfl, by simpa [Nat.add_assoc] using h4 1 z1 rfl, by simpa [Nat.add_assoc] using h4 2 z2 rfl⟩
theorem RdM.el4 {w : World} {a : Option Addr} {n c : Nat} {l : List (List Int)} (h : RdM 4 w a n c l) {j : Nat} (hj : j < n) : ∃ b off z0 z1 z2 z3, a = some ⟨b, off, none⟩ ∧ b < w.heap.size ∧ l[j]? = some [z0, z1, z2, z3] ∧ w.cell? ⟨b, off + j * 4, none⟩ = some (.int .i64 z0) ∧ w.cell? ⟨b, off + j * 4 + 1, none⟩ = some (.int .i64 z1) ∧ w.cell? ⟨b, off + j * 4 + 2, none⟩ = some (.int .i64 z2) ∧ w.cell? ⟨b, off + j * 4 + 3, none⟩ = some (.int .i64 z3) := by
  obtain ⟨b, off, y, e, h1, h2, h3, h4⟩ := h.at_ hj
  match y, h3 with
  | [z0, z1, z2, z3], _ => exact ⟨b, off, z0, z1, z2, z3, e, h1, h2, by simpa using h4 0 z0 rfl, by simpa [Nat.add_assoc] using h4 1 z1 rfl, by simpa [Nat.add_assoc] using h4 2 z2 rfl, by simpa [Nat.add_assoc] using h4 3 z3 rfl⟩

theorem rdm_of_rdn {m : Nat} (hm : 0 < m) {w : World} {a : Option Addr} {n c : Nat} {l : List (List Int)} (h : RdN m w a n c l) : RdM m w a n c l := by
  refine ⟨h.len, h.le, h.max, h.hnil, fun hn => ?_, h.size⟩
  obtain ⟨b, off, y, e, h1, _⟩ := h.at_ hm 0 hn
  refine ⟨b, off, e, h1, fun j y hy i z hz => ?_⟩
  have := h.cells _ e j y hy i z hz
  rwa [Go.WideShapes.add_plain] at this

/-- Such structs' cells. -/
def mcs (l : List (List Int)) : List Value := l.flatMap fun y => y.map (Value.int .i64)
theorem mcs_nil : mcs [] = [] := rfl
theorem mcs_cons (y : List Int) (l : List (List Int)) : mcs (y :: l) = y.map (Value.int .i64) ++ mcs l := rfl
theorem mcs_append (a b : List (List Int)) : mcs (a ++ b) = mcs a ++ mcs b := by simp [mcs]
theorem mcs_length {m : Nat} {l : List (List Int)} (h : ∀ y ∈ l, y.length = m) : (mcs l).length = l.length * m := by
  induction l with
  | nil => simp [mcs]
  | cons y l ih =>
    rw [mcs_cons, List.length_append, List.length_map, ih fun z hz => h z (by simp [hz]), h y (by simp), List.length_cons, Nat.add_mul, Nat.one_mul, Nat.add_comm]
theorem mcs_one (l : List (List Int)) : ∀ u ∈ mcs l, u.oneCell' = true := by
  intro u hu
  obtain ⟨x, _, hx⟩ := List.mem_flatMap.1 hu
  obtain ⟨z, _, rfl⟩ := List.mem_map.1 hx
  rfl
theorem mcs_at {m : Nat} {l : List (List Int)} (h : ∀ y ∈ l, y.length = m) {j : Nat} {y : List Int} (hj : l[j]? = some y) {i : Nat} {z : Int} (hi : y[i]? = some z) : (mcs l)[j * m + i]? = some (.int .i64 z) := by
  induction l generalizing j with
  | nil => simp at hj
  | cons x l ih =>
    have hx := h x (by simp)
    rw [mcs_cons]
    cases j with
    | zero =>
      simp only [List.getElem?_cons_zero, Option.some.injEq] at hj
      subst hj
      have : i < x.length := (List.getElem?_eq_some_iff.1 hi).1
      rw [Nat.zero_mul, Nat.zero_add, List.getElem?_append_left (by simpa using this), List.getElem?_map, hi]
      rfl
    | succ j =>
      rw [List.getElem?_append_right (by rw [List.length_map, hx, Nat.succ_mul]; omega), List.length_map, hx, show (j + 1) * m + i - m = j * m + i by rw [Nat.succ_mul]; omega]
      exact ih (fun z hz => h z (by simp [hz])) (by simpa using hj)
theorem mcs_inv {m : Nat} {l : List (List Int)} (h : ∀ y ∈ l, y.length = m) {k : Nat} {u : Value} (hu : (mcs l)[k]? = some u) : ∃ j i y z, k = j * m + i ∧ l[j]? = some y ∧ y[i]? = some z ∧ u = .int .i64 z := by
  have hk : k < l.length * m := by
    rw [← mcs_length h]
    exact (List.getElem?_eq_some_iff.1 hu).1
  have hm : 0 < m := by
    rcases Nat.eq_zero_or_pos m with h0 | h0
    · rw [h0] at hk; omega
    · exact h0
  have hj : k / m < l.length := by rw [Nat.div_lt_iff_lt_mul hm]; exact hk
  have e1 : l[k / m]? = some l[k / m] := List.getElem?_eq_getElem hj
  have hl := h _ (List.mem_of_getElem? e1)
  have e2 : l[k / m][k % m]? = some (l[k / m][k % m]'(by rw [hl]; exact Nat.mod_lt _ hm)) := List.getElem?_eq_getElem _
  have e3 : k = k / m * m + k % m := by rw [Nat.mul_comm]; exact (Nat.div_add_mod k m).symm
  refine ⟨k / m, k % m, _, _, e3, e1, e2, ?_⟩
  have := mcs_at h e1 e2
  rw [← e3, hu] at this
  simpa using this

/-- What is appended by 'append(x, l...)'. -/
theorem RdM.src {P : Program} {m : Nat} {w : World} {a : Option Addr} {n c : Nat} {l : List (List Int)} (h : RdM m w a n c l) {t e : TypeId} (ht : P.underlying t = some (.slice e)) : Src P m t (.slice a n c) n (mcs l) w := by
  have h3 := h.len
  cases a with
  | none =>
    have h1 := h.hnil rfl
    have h2 := h.le
    obtain rfl : n = 0 := by omega
    obtain rfl : l = [] := List.eq_nil_of_length_eq_zero h3
    exact Src.ofNil w ht c
  | some x =>
    refine Src.ofSlice w ht x n c (mcs l) (by rw [mcs_length h.size, h3]) (fun j u hu => ?_) (mcs_one l)
    rcases Nat.eq_zero_or_pos n with h0 | h0
    · obtain rfl : l = [] := List.eq_nil_of_length_eq_zero (by omega)
      simp [mcs] at hu
    · obtain ⟨b, off, e1, _, h2⟩ := h.pl h0
      cases e1
      rw [Go.WideShapes.add_plain]
      obtain ⟨p, q, y, z, rfl, hp, hq, rfl⟩ := mcs_inv h.size hu
      exact h2 p y hp q z hq

/-- A row of the call's own: m cells an element, of the type e; the call began in w. -/
structure OwM (m e : Nat) (w u : World) (v : Value) (l : List (List Int)) : Prop where
  own : u.ownsRow w.heap.size e m v l.length (mcs l)
  bel : Below w.heap.size w u
  size : ∀ y ∈ l, y.length = m
theorem OwM.on {m e : Nat} {w u u' : World} {v : Value} {l : List (List Int)} (h : OwM m e w u v l) (hb : Below u.heap.size u u') : OwM m e w u' v l := ⟨ownsRow_below h.own hb, Below.on h.bel hb, h.size⟩
theorem OwM.base {m e : Nat} {w w0 u : World} {v : Value} {l : List (List Int)} (h : OwM m e w u v l) (hb : Below w0.heap.size w0 w) : OwM m e w0 u v l := ⟨ownsRow_low h.own hb.size, Below.on hb h.bel, h.size⟩
theorem OwM.nil (m e : Nat) (w : World) : OwM m e w w (.slice none 0 0) [] := ⟨World.ownsRow_nil _ _ _ _, Below.refl _ _, by simp⟩
theorem OwM.grown {m e : Nat} {w u u' : World} {v v' : Value} {l k : List (List Int)} (h : OwM m e w u v l) (hk : ∀ y ∈ k, y.length = m) (o2 : u'.ownsRow w.heap.size e m v' (l.length + k.length) (mcs l ++ mcs k)) (g : u.grownBy u' v.ownBlock) : OwM m e w u' v' (l ++ k) :=
  ⟨by rw [List.length_append, mcs_append]; exact o2, h.bel.grown g h.bel.size (fun k hk => (h.own.lt k hk).1), fun y hy => by
    rcases List.mem_append.1 hy with hy | hy
    · exact h.size y hy
    · exact hk y hy⟩
theorem OwM.rd {m e : Nat} {w u : World} {v : Value} {l : List (List Int)} (h : OwM m e w u v l) : ∃ a c, v = .slice a l.length c ∧ RdM m u a l.length c l ∧ ∀ x, a = some x → w.heap.size ≤ x.block ∧ x.block < u.heap.size := by
  rcases h.own.2 with ⟨rfl, h0⟩ | ⟨g, cap, cur, rfl, hb, hg, hn, hm, _, _⟩
  · have hl := List.eq_nil_of_length_eq_zero h0
    subst hl
    exact ⟨none, 0, rfl, RdM.nil m u, fun x hx => by cases hx⟩
  · refine ⟨some ⟨g, 0, none⟩, cap, rfl, ⟨rfl, hn, hm, (fun h => by cases h), fun _ => ⟨g, 0, rfl, (h.own.lt g rfl).2, fun j y hy i z hz => ?_⟩, h.size⟩, fun x hx => ?_⟩
    · have hlt : j * m + i < l.length * m := by
        rw [← mcs_length h.size]
        exact (List.getElem?_eq_some_iff.1 (mcs_at h.size hy hz)).1
      rw [Nat.zero_add, h.own.cellAt _ hlt]
      exact mcs_at h.size hy hz
    · cases hx
      exact ⟨hb, (Array.getElem?_eq_some_iff.1 hg).1⟩

/-- A child's ID. -/
def hd (y : List Int) : Int := y.getD 0 0
theorem hd3 (a b c : Int) : hd [a, b, c] = a := rfl
/-- Where the first one of an ID stands. -/
def ixf (k : Int) : List (List Int) → Option Nat
  | [] => none
  | x :: l => if hd x = k then some 0 else (ixf k l).map (· + 1)
def ixI (k : Int) (l : List (List Int)) : Int := match ixf k l with
  | some i => i
  | none => -1
/-- A child put. -/
def put1 : List (List Int) → List Int → List (List Int)
  | [], c => [c]
  | x :: l, c => if hd x = hd c then c :: l else x :: put1 l c
def puts (l m : List (List Int)) : List (List Int) := m.foldl put1 l
/-- A child found. -/
def fnd (k : Int) : List (List Int) → Option (List Int)
  | [] => none
  | x :: l => if hd x = k then some x else fnd k l

theorem drop_at' {α : Type} {l : List α} {j : Nat} {x : α} (h : l[j]? = some x) : l.drop j = x :: l.drop (j + 1) := by
  obtain ⟨hj, rfl⟩ := List.getElem?_eq_some_iff.1 h
  exact List.drop_eq_getElem_cons hj
theorem ixf_drop {k : Int} {l : List (List Int)} : ∀ {j : Nat}, (∀ i y, i < j → l[i]? = some y → hd y ≠ k) → ixf k l = (ixf k (l.drop j)).map (· + j)
  | 0, _ => by simp
  | j + 1, h => by
    rw [ixf_drop (j := j) fun i y hi hy => h i y (by omega) hy]
    cases hd' : l[j]? with
    | none =>
      have : l.length ≤ j := List.getElem?_eq_none_iff.1 hd'
      rw [List.drop_eq_nil_of_le this, List.drop_eq_nil_of_le (by omega)]
      rfl
    | some y =>
      rw [drop_at' hd', ixf, if_neg (h j y (by omega) hd')]
      cases ixf k (l.drop (j + 1)) with
      | none => rfl
      | some i => simp; omega
theorem ixf_none {k : Int} : ∀ {l : List (List Int)}, ixf k l = none → (∀ y ∈ l, hd y ≠ k) ∧ fnd k l = none
  | [], _ => ⟨by simp, rfl⟩
  | x :: l, h => by
    rw [ixf] at h
    split at h
    · cases h
    · rename_i hx
      obtain ⟨h1, h2⟩ := ixf_none (l := l) (by simpa using h)
      refine ⟨fun y hy => ?_, by rw [fnd, if_neg hx, h2]⟩
      rcases List.mem_cons.1 hy with rfl | hy
      · exact hx
      · exact h1 y hy
theorem ixf_some {k : Int} : ∀ {l : List (List Int)} {i : Nat}, ixf k l = some i → i < l.length ∧ fnd k l = l[i]? ∧ ∀ c, hd c = k → put1 l c = l.set i c
  | [], _, h => by cases h
  | x :: l, i, h => by
    rw [ixf] at h
    split at h
    · rename_i hx
      cases h
      refine ⟨by simp, by rw [fnd, if_pos hx]; rfl, fun c hc => ?_⟩
      rw [put1, if_pos (by rw [hx, hc])]
      rfl
    · rename_i hx
      obtain ⟨m, hm, rfl⟩ := Option.map_eq_some_iff.1 h
      obtain ⟨h1, h2, h3⟩ := ixf_some hm
      refine ⟨by simpa using h1, by rw [fnd, if_neg hx, h2]; rfl, fun c hc => ?_⟩
      rw [put1, if_neg (by rw [hc]; exact hx), h3 c hc]
      rfl
theorem put1_none {l : List (List Int)} {c : List Int} (h : ∀ y ∈ l, hd y ≠ hd c) : put1 l c = l ++ [c] := by
  induction l with
  | nil => rfl
  | cons x l ih =>
    rw [put1, if_neg (h x (by simp)), ih fun y hy => h y (by simp [hy])]
    rfl
theorem put1_length {l : List (List Int)} {c : List Int} : l.length ≤ (put1 l c).length ∧ (put1 l c).length ≤ l.length + 1 := by
  induction l with
  | nil => simp [put1]
  | cons x l ih =>
    rw [put1]
    split
    · simp
    · simp only [List.length_cons]; omega
theorem put1_size {m : Nat} {l : List (List Int)} {c : List Int} (h : ∀ y ∈ l, y.length = m) (hc : c.length = m) : ∀ y ∈ put1 l c, y.length = m := by
  induction l with
  | nil => intro y hy; simp [put1] at hy; rw [hy]; exact hc
  | cons x l ih =>
    intro y hy
    rw [put1] at hy
    split at hy
    · rcases List.mem_cons.1 hy with rfl | hy
      · exact hc
      · exact h y (by simp [hy])
    · rcases List.mem_cons.1 hy with rfl | hy
      · exact h y (by simp)
      · exact ih (fun z hz => h z (by simp [hz])) y hy
theorem fnd_put1 (l : List (List Int)) (c : List Int) : fnd (hd c) (put1 l c) = some c := by
  induction l with
  | nil => simp [put1, fnd]
  | cons x l ih =>
    rw [put1]
    split
    · rw [fnd, if_pos rfl]
    · rename_i hx
      rw [fnd, if_neg hx, ih]
theorem fnd_other {k : Int} (l : List (List Int)) (c : List Int) (h : k ≠ hd c) : fnd k (put1 l c) = fnd k l := by
  induction l with
  | nil => simp [put1, fnd, Ne.symm h]
  | cons x l ih =>
    rw [put1]
    split
    · rename_i hx
      rw [fnd, fnd, if_neg (Ne.symm h), if_neg (by rw [hx]; exact Ne.symm h)]
    · rw [fnd, fnd, ih]
theorem puts_nil (l : List (List Int)) : puts l [] = l := rfl
theorem puts_snoc (l m : List (List Int)) (c : List Int) : puts l (m ++ [c]) = put1 (puts l m) c := by simp [puts]
theorem puts_cons (l m : List (List Int)) (c : List Int) : puts l (c :: m) = puts (put1 l c) m := rfl
theorem puts_length (l m : List (List Int)) : (puts l m).length ≤ l.length + m.length := by
  induction m generalizing l with
  | nil => simp [puts]
  | cons c m ih =>
    have h1 := ih (put1 l c)
    have h2 := (put1_length (l := l) (c := c)).2
    rw [puts_cons]
    simp only [List.length_cons]
    omega
theorem puts_size {m : Nat} {l k : List (List Int)} (h : ∀ y ∈ l, y.length = m) (hk : ∀ y ∈ k, y.length = m) : ∀ y ∈ puts l k, y.length = m := by
  induction k generalizing l with
  | nil => exact h
  | cons c k ih => exact ih (put1_size h (hk c (by simp))) (fun y hy => hk y (by simp [hy]))

/-- No child stands twice. -/
def Onc (l : List (List Int)) : Prop := l.Pairwise fun x y => hd x ≠ hd y
theorem put1_put1 (l : List (List Int)) {x c : List Int} (h : hd x = hd c) : put1 (put1 l x) c = put1 l c := by
  induction l with
  | nil => simp [put1, h]
  | cons y l ih =>
    by_cases hy : hd y = hd x
    · rw [put1, if_pos hy, put1, if_pos h, put1, if_pos (by rw [hy, h])]
    · rw [put1, if_neg hy, put1, if_neg (by rw [← h]; exact hy), put1, if_neg (by rw [← h]; exact hy), ih]
/-- It is there already. -/
def Thr (k : Int) (l : List (List Int)) : Prop := ∃ y ∈ l, hd y = k
theorem thr_put1 {k : Int} {l : List (List Int)} (c : List Int) (h : Thr k l) : Thr k (put1 l c) := by
  induction l with
  | nil => obtain ⟨y, hy, _⟩ := h; simp at hy
  | cons x l ih =>
    rw [put1]
    obtain ⟨y, hy, hk⟩ := h
    split
    · rename_i hx
      rcases List.mem_cons.1 hy with rfl | hy
      · exact ⟨c, by simp, by rw [← hx, hk]⟩
      · exact ⟨y, by simp [hy], hk⟩
    · rcases List.mem_cons.1 hy with rfl | hy
      · exact ⟨y, by simp, hk⟩
      · obtain ⟨z, hz, e⟩ := ih ⟨y, hy, hk⟩
        exact ⟨z, by simp [hz], e⟩
theorem thr_self (l : List (List Int)) (c : List Int) : Thr (hd c) (put1 l c) := by
  induction l with
  | nil => exact ⟨c, by simp [put1], rfl⟩
  | cons x l ih =>
    rw [put1]
    split
    · exact ⟨c, by simp, rfl⟩
    · obtain ⟨z, hz, e⟩ := ih
      exact ⟨z, by simp [hz], e⟩
theorem put1_comm {l : List (List Int)} {x c : List Int} (h : hd x ≠ hd c) (ht : Thr (hd c) l) : put1 (put1 l x) c = put1 (put1 l c) x := by
  induction l with
  | nil => obtain ⟨y, hy, _⟩ := ht; simp at hy
  | cons y l ih =>
    by_cases h1 : hd y = hd x
    · have h2 : hd y ≠ hd c := by rw [h1]; exact h
      rw [put1, if_pos h1, put1, if_neg h, put1, if_neg h2, put1, if_pos h1]
    · by_cases h2 : hd y = hd c
      · rw [put1, if_neg h1, put1, if_pos h2, put1, if_pos h2, put1, if_neg (Ne.symm h)]
      · rw [put1, if_neg h1, put1, if_neg h2, put1, if_neg h2, put1, if_neg h1, ih]
        obtain ⟨z, hz, e⟩ := ht
        rcases List.mem_cons.1 hz with rfl | hz
        · exact absurd e h2
        · exact ⟨z, hz, e⟩
theorem put1_puts {a : List (List Int)} : ∀ {l : List (List Int)} {c : List Int}, (∀ y ∈ a, hd y ≠ hd c) → Thr (hd c) l → put1 (puts l a) c = puts (put1 l c) a := by
  induction a with
  | nil => intros; rfl
  | cons x a ih =>
    intro l c h ht
    rw [puts_cons, puts_cons, ih (fun y hy => h y (by simp [hy])) (thr_put1 x ht), put1_comm (h x (by simp)) ht]
theorem puts_put1 {a : List (List Int)} : ∀ {l : List (List Int)} {c : List Int}, Onc a → puts l (put1 a c) = put1 (puts l a) c := by
  induction a with
  | nil => intros; rfl
  | cons x a ih =>
    intro l c h
    obtain ⟨h1, h2⟩ := List.pairwise_cons.1 h
    by_cases hx : hd x = hd c
    · rw [put1, if_pos hx, puts_cons, puts_cons, put1_puts (fun y hy => by rw [← hx]; exact Ne.symm (h1 y hy)) (by rw [← hx]; exact thr_self l x), put1_put1 l hx]
    · rw [put1, if_neg hx, puts_cons, puts_cons, ih h2]
theorem mem_put1 {l : List (List Int)} {c y : List Int} (h : y ∈ put1 l c) : y = c ∨ y ∈ l := by
  induction l with
  | nil => simp [put1] at h; exact .inl h
  | cons x l ih =>
    rw [put1] at h
    split at h
    · rcases List.mem_cons.1 h with rfl | h
      · exact .inl rfl
      · exact .inr (by simp [h])
    · rcases List.mem_cons.1 h with rfl | h
      · exact .inr (by simp)
      · rcases ih h with e | e
        · exact .inl e
        · exact .inr (by simp [e])
theorem onc_put1 {l : List (List Int)} (c : List Int) (h : Onc l) : Onc (put1 l c) := by
  induction l with
  | nil => simp [put1, Onc]
  | cons x l ih =>
    obtain ⟨h1, h2⟩ := List.pairwise_cons.1 h
    rw [put1]
    split
    · rename_i hx
      exact List.pairwise_cons.2 ⟨fun y hy => by rw [← hx]; exact h1 y hy, h2⟩
    · rename_i hx
      refine List.pairwise_cons.2 ⟨fun y hy => ?_, ih h2⟩
      rcases mem_put1 hy with rfl | hy
      · exact hx
      · exact h1 y hy
theorem puts_puts {b : List (List Int)} : ∀ {l a : List (List Int)}, Onc a → puts l (puts a b) = puts (puts l a) b := by
  induction b with
  | nil => intros; rfl
  | cons c b ih =>
    intro l a h
    rw [puts_cons, puts_cons, ih (onc_put1 c h), puts_put1 h]
/-- Each put anew, in a list of itself: it is that list, where none stands twice. -/
theorem puts_self_nil {a : List (List Int)} (h : Onc a) : puts [] a = a := by
  suffices H : ∀ (p a : List (List Int)), Onc (p ++ a) → puts p a = p ++ a from H [] a h
  intro p a
  induction a generalizing p with
  | nil => intro _; simp [puts]
  | cons c a ih =>
    intro h
    have hn : ∀ y ∈ p, hd y ≠ hd c := fun y hy => (List.pairwise_append.1 h).2.2 y hy c (by simp)
    rw [puts_cons, put1_none hn, ih _ (by simpa using h)]
    simp

/-- What a surface has, or is to have. -/
structure Sq where
  at_ : Bool
  buf : Int
  dm : List (List Int)
  fr : List (List Int)
  inp : Bool
  all : Bool
  rg : List (List Int)
  ord : Bool
  od : List (List Int)
  pl : List (List Int)

def mrg (a b : Sq) : Sq := ⟨a.at_ || b.at_, bif b.at_ then b.buf else a.buf, a.dm ++ b.dm, a.fr ++ b.fr, a.inp || b.inp, bif b.inp then b.all else a.all, bif b.inp then b.rg else a.rg, a.ord || b.ord, bif b.ord then b.od else a.od, puts a.pl b.pl⟩
def apl (a b : Sq) : Sq := { mrg a b with at_ := false, inp := false, ord := false, dm := [] }
def non (s : Sq) : Bool := !s.at_ && (!s.inp && (!s.ord && (s.dm.isEmpty && (s.fr.isEmpty && s.pl.isEmpty))))
def few (s : Sq) : Bool := decide (s.dm.length ≤ 60) && (decide (s.fr.length ≤ 60) && (decide (s.rg.length ≤ 60) && (decide (s.od.length ≤ 60) && decide (s.pl.length ≤ 60))))
def sq0 : Sq := ⟨false, 0, [], [], false, false, [], false, [], []⟩
theorem mrg_buf (a b : Sq) (n : Sq) : (mrg (mrg n a) b).buf = (mrg n (mrg a b)).buf := by
  simp only [mrg]
  cases a.at_ <;> cases b.at_ <;> rfl
theorem mrg_od (a b : Sq) (n : Sq) : (mrg (mrg n a) b).od = (mrg n (mrg a b)).od := by
  simp only [mrg]
  cases a.ord <;> cases b.ord <;> rfl
theorem apl_mrg {n a b : Sq} (h : Onc a.pl) : apl n (mrg a b) = apl (apl n a) b := by
  simp only [apl, mrg, List.append_assoc, puts_puts h]
  congr 1
  · cases a.at_ <;> cases b.at_ <;> rfl
  · cases a.inp <;> cases b.inp <;> rfl
  · cases a.inp <;> cases b.inp <;> rfl
  · cases a.ord <;> cases b.ord <;> rfl
theorem apl_sq0 (n : Sq) : apl n sq0 = { n with at_ := false, inp := false, ord := false, dm := [] } := by
  simp [apl, mrg, sq0, puts_nil]
theorem apl_apl_sq0 (n : Sq) : apl (apl n sq0) sq0 = apl n sq0 := by simp [apl_sq0]
end Go.Proofs.Ytlkodgmnhphfcaa

/- A block whole; a struct of six numbers read; over any program. -/
namespace Go.Proofs.Ytlkodgmnhphfcaa
open Go Go.RowKit

/-- A block whole. -/
structure Bk (u : World) (p T : Nat) (cs : Array Value) : Prop where
  obj : u.heap[p]? = some (.cells cs T (0, 0))
theorem Bk.lt {u : World} {p T : Nat} {cs : Array Value} (h : Bk u p T cs) : p < u.heap.size := (Array.getElem?_eq_some_iff.1 h.obj).1
theorem Bk.cell {u : World} {p T : Nat} {cs : Array Value} (h : Bk u p T cs) (k : Nat) : u.cell? ⟨p, k, none⟩ = cs[k]? := Lib.cell_of_heap h.obj k
theorem Bk.fz {u : World} {p T : Nat} {cs : Array Value} (h : Bk u p T cs) (k : Nat) : u.frozen? ⟨p, k, none⟩ = false := Lib.frozen_of_heap h.obj k
theorem Bk.on {u v : World} {p T : Nat} {cs : Array Value} (h : Bk u p T cs) (hb : Below u.heap.size u v) : Bk v p T cs := ⟨by rw [hb.block p h.lt]; exact h.obj⟩
theorem Bk.kp {u v : World} {p T : Nat} {cs : Array Value} (h : Bk u p T cs) {X : List Nat} (hb : Kp X u v) (hX : p ∉ X) : Bk v p T cs := ⟨hb.var h.obj hX⟩
theorem bk_new (w : World) (cs : Array Value) (T : Nat) : Bk (w.alloc (.cells cs T)) w.heap.size T cs := ⟨heap_alloc_new w _⟩
theorem Bk.set {u : World} {p T : Nat} {cs : Array Value} (h : Bk u p T cs) (k : Nat) (v : Value) : Bk (u.setCell ⟨p, k, none⟩ v) p T (cs.setIfInBounds k v) := ⟨heap_setCell_same _ p k _ _ _ h.obj⟩
theorem Bk.other {u : World} {p q T : Nat} {cs : Array Value} (h : Bk u p T cs) (hn : p ≠ q) (k : Nat) (v : Value) : Bk (u.setCell ⟨q, k, none⟩ v) p T cs := ⟨by rw [heap_setCell_other _ _ _ _ hn]; exact h.obj⟩
theorem bel_new (w : World) (o : Obj) : Below w.heap.size w (w.alloc o) := (Below.refl _ _).alloc (Nat.le_refl _) _
theorem size_new (w : World) (o : Obj) : (w.alloc o).heap.size = w.heap.size + 1 := by simp

theorem results_cell_tmp' {P : Program} {fn : Func} {p u : Tmp} {ty : TypeId} (h : fn.results = #[.cell p ty, .tmp u]) (tmps : Array Value) (w : World) (g : Nat) (t : TypeId) (cs : Array Value) (fr : Nat × Nat) (d : TypeDesc)
    (hp : tmps.getD p undef = .pointer (some ⟨g, 0, none⟩)) (hg : w.heap[g]? = some (.cells cs t fr))
    (hu : P.underlying ty = some d) (hd : (match d with | .struct _ | .array _ _ => true | _ => false) = true) (hi : (P.info? ty).map (·.size) = some cs.size) :
    (results fn tmps).run P w = .ok (.tuple #[.agg cs, tmps.getD u undef]) w := by
  have hp' : tmps[p]?.getD undef = .pointer (some ⟨g, 0, none⟩) := by simpa using hp
  simp [results, h, hp', asAddr, run_loadVar_row w g t ty cs fr d hg hu hd hi]
theorem RdM.el6 {w : World} {a : Option Addr} {n c : Nat} {l : List (List Int)} (h : RdM 6 w a n c l) {j : Nat} (hj : j < n) : ∃ b off z0 z1 z2 z3 z4 z5, a = some ⟨b, off, none⟩ ∧ b < w.heap.size ∧ l[j]? = some [z0, z1, z2, z3, z4, z5] ∧ w.cell? ⟨b, off + j * 6, none⟩ = some (.int .i64 z0) ∧ w.cell? ⟨b, off + j * 6 + 1, none⟩ = some (.int .i64 z1) ∧ w.cell? ⟨b, off + j * 6 + 2, none⟩ = some (.int .i64 z2) ∧ w.cell? ⟨b, off + j * 6 + 3, none⟩ = some (.int .i64 z3) ∧ w.cell? ⟨b, off + j * 6 + 4, none⟩ = some (.int .i64 z4) ∧ w.cell? ⟨b, off + j * 6 + 5, none⟩ = some (.int .i64 z5) := by
  obtain ⟨b, off, y, e, h1, h2, h3, h4⟩ := h.at_ hj
  match y, h3 with
  | [z0, z1, z2, z3, z4, z5], _ => exact ⟨b, off, z0, z1, z2, z3, z4, z5, e, h1, h2, by simpa using h4 0 z0 rfl, by simpa [Nat.add_assoc] using h4 1 z1 rfl, by simpa [Nat.add_assoc] using h4 2 z2 rfl, by simpa [Nat.add_assoc] using h4 3 z3 rfl, by simpa [Nat.add_assoc] using h4 4 z4 rfl, by simpa [Nat.add_assoc] using h4 5 z5 rfl⟩
theorem fits48 {need b : Nat} (h : need ≤ 1000000000) (hb : b ≤ 48) : ∀ old, old < need → Builtin.nextslicecap need old * b ≤ 281474976710656 := fun old ho => by
  have h1 := nextslicecap_near ho
  have h2 : Builtin.nextslicecap need old * b ≤ Builtin.nextslicecap need old * 48 := Nat.mul_le_mul_left _ hb
  omega
/-- A struct's i-th number. -/
def nm5 (i : Nat) (y : List Int) : Int := y.getD i 0

end Go.Proofs.Ytlkodgmnhphfcaa

/- Repaint: what has changed between two lists of views, and why its part, painted anew, is the whole. Nothing of the program. -/
namespace Go.Proofs.Ytlkodgmnhphfcaa
open Go Go.RowKit

/-- A view's rectangle. -/
def vrc (y : List Int) : Rc := ⟨nm5 2 y, nm5 3 y, nm5 4 y, nm5 5 y⟩
/-- A damage of a view. -/
def spt (y : List Int) (r : Rc) : Rc := if dck (vrc y) = false ∨ emp (bnd r) = true then rz else cut (sh (bnd r) (nm5 2 y) (nm5 3 y)) (vrc y)
/-- What has changed at one place. -/
def chp (o v : Option (List Int)) (D : List (Int × List Rc)) : List Rc := match o, v with
  | some a, some b => if a = b then D.flatMap fun d => if d.1 = nm5 0 b then d.2.map (spt b) else [] else [vrc a, vrc b]
  | some a, none => [vrc a]
  | none, some b => [vrc b]
  | none, none => []
/-- What has changed at the first k places. -/
def chN (o v : List (List Int)) (D : List (Int × List Rc)) (k : Nat) : List Rc := (List.range k).flatMap fun i => chp o[i]? v[i]? D
def chl (o v : List (List Int)) (D : List (Int × List Rc)) : List Rc := chN o v D (max o.length v.length)
theorem chN_zero (o v : List (List Int)) (D : List (Int × List Rc)) : chN o v D 0 = [] := rfl
theorem chN_succ (o v : List (List Int)) (D : List (Int × List Rc)) (k : Nat) : chN o v D (k + 1) = chN o v D k ++ chp o[k]? v[k]? D := by
  rw [chN, List.range_succ, List.flatMap_append, List.flatMap_singleton]
  rfl
/-- A rectangle added to what is held to few is added to all. -/
theorem dput_dfl (l : List Rc) (r : Rc) : dput (dfl (dfl l)) r = dfl (l ++ [r]) := by
  rw [dfl_again (dfl_reg l) (dfl_len l), dfl_push]
theorem dput_rz {m : List Rc} (h : Reg m) (hl : m.length ≤ 40) : dput m rz = m := dput_there h hl fun x y hp => by
  rw [show ofl rz = [] by decide] at hp
  cases hp
theorem dfl_rz (l : List Rc) : dfl (l ++ [rz]) = dfl l := by rw [dfl_push, dput_rz (dfl_reg l) (dfl_len l)]
theorem dfl_app_rz (l m : List Rc) (h : ∀ r ∈ m, r = rz) : dfl (l ++ m) = dfl l := by
  induction m generalizing l with
  | nil => rw [List.append_nil]
  | cons r m ih =>
    rw [show l ++ r :: m = (l ++ [r]) ++ m by simp, ih _ fun a ha => h a (by simp [ha]), h r (by simp), dfl_rz]

/-! Either way round, the same. -/
theorem chp_mem {o v : Option (List Int)} {r : Rc} : r ∈ chp o v [] ↔ o ≠ v ∧ ((∃ a, o = some a ∧ r = vrc a) ∨ ∃ b, v = some b ∧ r = vrc b) := by
  cases o with
  | none => cases v <;> simp [chp]
  | some a =>
    cases v with
    | none => simp [chp]
    | some b =>
      by_cases e : a = b
      · simp [chp, e]
      · simp [chp, e]
theorem chp_turn (o v : Option (List Int)) (r : Rc) : r ∈ chp o v [] ↔ r ∈ chp v o [] := by
  rw [chp_mem, chp_mem]
  constructor
  · rintro ⟨h, h' | h'⟩
    · exact ⟨h.symm, .inr h'⟩
    · exact ⟨h.symm, .inl h'⟩
  · rintro ⟨h, h' | h'⟩
    · exact ⟨h.symm, .inr h'⟩
    · exact ⟨h.symm, .inl h'⟩
theorem chl_mem {o v : List (List Int)} {D : List (Int × List Rc)} {r : Rc} : r ∈ chl o v D ↔ ∃ i : Nat, r ∈ chp o[i]? v[i]? D := by
  rw [chl, chN, List.mem_flatMap]
  constructor
  · rintro ⟨i, _, h⟩
    exact ⟨i, h⟩
  · rintro ⟨i, h⟩
    refine ⟨i, List.mem_range.2 ?_, h⟩
    apply Decidable.byContradiction
    intro hi
    rw [List.getElem?_eq_none (by omega), List.getElem?_eq_none (by omega)] at h
    cases h
theorem chl_turn (o v : List (List Int)) (r : Rc) : r ∈ chl o v [] ↔ r ∈ chl v o [] := by
  rw [chl_mem, chl_mem]
  exact ⟨fun ⟨i, h⟩ => ⟨i, (chp_turn _ _ r).1 h⟩, fun ⟨i, h⟩ => ⟨i, (chp_turn _ _ r).1 h⟩⟩
theorem chp_len (o v : Option (List Int)) : (chp o v []).length ≤ o.toList.length + v.toList.length := by
  cases o with
  | none => cases v <;> simp [chp]
  | some a =>
    cases v with
    | none => simp [chp]
    | some b =>
      by_cases e : a = b
      · simp [chp, e]
      · simp [chp, e]
theorem chN_len (o v : List (List Int)) (k : Nat) : (chN o v [] k).length ≤ (o.take k).length + (v.take k).length := by
  induction k with
  | zero => simp [chN]
  | succ k ih =>
    have h := chp_len o[k]? v[k]?
    rw [chN_succ, List.length_append, List.take_add_one, List.take_add_one, List.length_append, List.length_append]
    omega
theorem chl_len (o v : List (List Int)) : (chl o v []).length ≤ o.length + v.length := by
  have h := chN_len o v (max o.length v.length)
  rw [List.take_of_length_le (by omega), List.take_of_length_le (by omega)] at h
  exact h
theorem dfl_mem {l m : List Rc} (hl : l.length ≤ 6) (hm : m.length ≤ 6) (h : ∀ r, r ∈ l ↔ r ∈ m) : dfl l = dfl m := by
  refine reg_eq (dfl_reg _) (dfl_reg _) fun x y => ?_
  rw [dfl_few hl, dfl_few hm, Bool.eq_iff_iff, pt_iff, pt_iff]
  constructor
  · rintro ⟨a, ha, h'⟩
    obtain ⟨r, hr, ha⟩ := List.mem_flatMap.1 ha
    exact ⟨a, List.mem_flatMap.2 ⟨r, (h r).1 hr, ha⟩, h'⟩
  · rintro ⟨a, ha, h'⟩
    obtain ⟨r, hr, ha⟩ := List.mem_flatMap.1 ha
    exact ⟨a, List.mem_flatMap.2 ⟨r, (h r).2 hr, ha⟩, h'⟩
/-- Few views: either way round the same has changed. -/
theorem ch_turn {o v : List (List Int)} (h : o.length + v.length ≤ 6) : dfl (chl o v []) = dfl (chl v o []) := by
  have h1 := chl_len o v
  have h2 := chl_len v o
  exact dfl_mem (by omega) (by omega) (chl_turn o v)
/-- Of lists that are the same nothing but what is dirty. -/
theorem ch_same {o : List (List Int)} {D : List (Int × List Rc)} (h : ∀ a ∈ o, ∀ d ∈ D, d.1 ≠ nm5 0 a) : chl o o D = [] := by
  apply List.eq_nil_iff_forall_not_mem.2
  intro r hr
  obtain ⟨i, hi⟩ := chl_mem.1 hr
  cases e : o[i]? with
  | none => rw [e] at hi; cases hi
  | some a =>
    rw [e, chp, if_pos rfl] at hi
    obtain ⟨d, hd, hr⟩ := List.mem_flatMap.1 hi
    rw [if_neg (h a (List.mem_of_getElem? e) d hd)] at hr
    cases hr

/-! Damage. -/
theorem spt_full {y : List Int} {r : Rc} (k : Ck (vrc y)) (hb : emp (bnd r) = false) : spt y r = cut (sh (bnd r) (nm5 2 y) (nm5 3 y)) (vrc y) := by
  rw [spt, if_neg]
  rw [dck_iff.2 k, hb]
  decide
theorem spt_no {y : List Int} {r : Rc} (h : dck (vrc y) = false ∨ emp (bnd r) = true) : spt y r = rz := by rw [spt, if_pos h]
theorem spt_cut {y : List Int} {r : Rc} (k : Ck (vrc y)) (hb : emp (bnd r) = false) : spt y r = oft (max ((bnd r).x + nm5 2 y) (nm5 2 y)) (max ((bnd r).y + nm5 3 y) (nm5 3 y)) (min ((bnd r).x + nm5 2 y + (bnd r).w) (nm5 2 y + nm5 4 y)) (min ((bnd r).y + nm5 3 y + (bnd r).h) (nm5 3 y + nm5 5 y)) := by
  have kb : Ck (bnd r) := by
    rcases bnd_cases r with h | h
    · rw [hb] at h; cases h
    · exact h
  rw [spt_full k hb, sh_full hb, cut_full (by simp only [emp] at hb ⊢; exact hb) k.emp]
  obtain ⟨k1, k2, k3, k4, k5, k6⟩ := k
  obtain ⟨l1, l2, l3, l4, l5, l6⟩ := kb
  simp only [vrc] at k1 k2 k3 k4 k5 k6
  simp only [vrc]
  rw [en, if_pos (by omega), en, if_pos (by omega), en, if_pos (by omega), en, if_pos (by omega)]
theorem spt_has {y : List Int} {r : Rc} (k : Ck (vrc y)) (u v : Int) : has (spt y r) u v = (has (bnd r) (u - nm5 2 y) (v - nm5 3 y) && has (vrc y) u v) := by
  cases hb : emp (bnd r) with
  | true => rw [spt_no (.inr hb), has_rz, has_emp hb, Bool.false_and]
  | false =>
    rw [spt_cut k hb, Bool.eq_iff_iff, Bool.and_eq_true, has_iff, has_iff, has_iff, oft]
    simp only [emp, Bool.or_eq_false_iff, decide_eq_false_iff_not] at hb
    obtain ⟨k1, k2, k3, k4, k5, k6⟩ := k
    simp only [vrc] at k1 k2 k3 k4 k5 k6 ⊢
    split
    · simp only [rz]; omega
    · dsimp only; omega
theorem spt_ok (y : List Int) (r : Rc) : (spt y r).Ok := by
  by_cases h : dck (vrc y) = false ∨ emp (bnd r) = true
  · rw [spt_no h]; exact rz_ok
  · have h1 : dck (vrc y) = true := by cases e : dck (vrc y) with
      | true => rfl
      | false => exact absurd (.inl e) h
    have h2 : emp (bnd r) = false := by cases e : emp (bnd r) with
      | false => rfl
      | true => exact absurd (.inr e) h
    have k := dck_iff.1 h1
    have kb : Ck (bnd r) := by
      rcases bnd_cases r with h | h
      · rw [h2] at h; cases h
      · exact h
    rw [spt_cut k h2, oft]
    obtain ⟨k1, k2, k3, k4, k5, k6⟩ := k
    obtain ⟨l1, l2, l3, l4, l5, l6⟩ := kb
    simp only [vrc] at k1 k2 k3 k4 k5 k6
    split
    · exact rz_ok
    · exact ⟨by dsimp only; omega, by dsimp only; omega, by dsimp only; omega, by dsimp only; omega⟩
theorem chl_one (y : List Int) (r : Rc) : chl [y] [y] [(nm5 0 y, [r])] = [spt y r] := by
  simp [chl, chN, chp]
end Go.Proofs.Ytlkodgmnhphfcaa

/- Damaged surfaces: a slice of them, program's or document's; a row of one's own. -/
namespace Go.Proofs.Ytlkodgmnhphfcaa
open Go Go.RowKit

/-- A damaged surface: its number, where its damage lies, and this. -/
structure Dv where
  s : Int
  a : Option Addr
  n : Nat
  c : Nat
  l : List Rc
def dvv (d : Dv) : Array Value := #[.int .i64 d.s, .slice d.a d.n d.c]
/-- What it says, wherever that lies. -/
def ddl (d : Dv) : Int × List Rc := (d.s, d.l)
def dzz : Dv := ⟨0, none, 0, 0, []⟩
structure DOk (w : World) (d : Dv) : Prop where
  ks : I64 d.s
  rc : RdC w d.a d.n d.c d.l
theorem DOk.on {w u : World} {d : Dv} (h : DOk w d) (hb : Below w.heap.size w u) : DOk u d := ⟨h.ks, h.rc.on hb⟩
/-- A slice of such. -/
structure RdD (w : World) (a : Option Addr) (n c : Nat) (ds : List Dv) : Prop where
  len : ds.length = n
  le : n ≤ c
  max : c ≤ maxLen
  hnil : a = none → c = 0
  pl : 0 < n → ∃ b off, a = some ⟨b, off, none⟩ ∧ b < w.heap.size ∧ ∀ j d, ds[j]? = some d → ∀ i v, (dvv d)[i]? = some v → w.cell? ⟨b, off + (j * 2 + i), none⟩ = some v
  ok : ∀ d ∈ ds, DOk w d
theorem RdD.nil (w : World) : RdD w none 0 0 [] := ⟨rfl, Nat.le_refl _, Nat.zero_le _, fun _ => rfl, fun h => absurd h (by omega), by simp⟩
theorem RdD.small {w : World} {a : Option Addr} {n c : Nat} {ds : List Dv} (h : RdD w a n c ds) : n ≤ 9223372036854775807 ∧ c ≤ 9223372036854775807 := by
  have h1 := h.le
  have h2 := h.max
  simp only [maxLen] at h2
  omega
theorem RdD.on {w u : World} {a : Option Addr} {n c : Nat} {ds : List Dv} (h : RdD w a n c ds) (hb : Below w.heap.size w u) : RdD u a n c ds :=
  ⟨h.len, h.le, h.max, h.hnil, fun hn => by
    obtain ⟨b, off, e, h1, h2⟩ := h.pl hn
    exact ⟨b, off, e, Nat.lt_of_lt_of_le h1 hb.size, fun j d hj i v hv => by rw [hb.cell h1]; exact h2 j d hj i v hv⟩, fun d hd => (h.ok d hd).on hb⟩
theorem RdD.el {w : World} {a : Option Addr} {n c : Nat} {ds : List Dv} (h : RdD w a n c ds) {j : Nat} (hj : j < n) : ∃ b off d, a = some ⟨b, off, none⟩ ∧ b < w.heap.size ∧ ds[j]? = some d ∧ DOk w d ∧ w.cell? ⟨b, off + j * 2, none⟩ = some (.int .i64 d.s) ∧ w.cell? ⟨b, off + j * 2 + 1, none⟩ = some (.slice d.a d.n d.c) := by
  obtain ⟨b, off, e, h1, h2⟩ := h.pl (by omega)
  have hl := h.len
  have hg : ds[j]? = some ds[j] := List.getElem?_eq_getElem (by omega)
  have h4 := h2 j _ hg
  exact ⟨b, off, _, e, h1, hg, h.ok _ (List.mem_of_getElem? hg), by simpa using h4 0 (.int .i64 ds[j].s) rfl, by simpa [Nat.add_assoc] using h4 1 (.slice ds[j].a ds[j].n ds[j].c) rfl⟩

def dcs (l : List Dv) : List Value := l.flatMap fun d => (dvv d).toList
theorem dcs_append (a b : List Dv) : dcs (a ++ b) = dcs a ++ dcs b := by simp [dcs]
theorem dcs_at {l : List Dv} {j : Nat} {d : Dv} (hj : l[j]? = some d) {i : Nat} {v : Value} (hi : (dvv d)[i]? = some v) : (dcs l)[j * 2 + i]? = some v := by
  induction l generalizing j with
  | nil => simp at hj
  | cons x l ih =>
    have hc : dcs (x :: l) = (dvv x).toList ++ dcs l := rfl
    rw [hc]
    cases j with
    | zero =>
      simp only [List.getElem?_cons_zero, Option.some.injEq] at hj
      subst hj
      have : i < (dvv x).toList.length := by simpa using (Array.getElem?_eq_some_iff.1 hi).1
      rw [Nat.zero_mul, Nat.zero_add, List.getElem?_append_left this]
      simpa using hi
    | succ j =>
      have h7 : (dvv x).toList.length = 2 := rfl
      rw [List.getElem?_append_right (by rw [h7]; omega), h7, show (j + 1) * 2 + i - 2 = j * 2 + i by omega]
      exact ih (by simpa using hj)
theorem dvv_one (d : Dv) : ∀ u ∈ (dvv d).toList, u.oneCell' = true := by
  intro u hu
  simp only [dvv, List.mem_cons, List.not_mem_nil, or_false] at hu
  rcases hu with rfl | rfl <;> rfl
/-- A row of such of the call's own; none of their damage lies in the row. -/
structure OwD (e : Nat) (w u : World) (v : Value) (l : List Dv) : Prop where
  own : u.ownsRow w.heap.size e 2 v l.length (dcs l)
  bel : Below w.heap.size w u
  ok : ∀ d ∈ l, DOk u d
  ap : ∀ d ∈ l, 0 < d.n → ∀ x, d.a = some x → v.ownBlock ≠ some x.block
theorem OwD.nil (e : Nat) (w : World) : OwD e w w (.slice none 0 0) [] := ⟨World.ownsRow_nil _ _ _ _, Below.refl _ _, by simp, by simp⟩
theorem OwD.on {e : Nat} {w u u' : World} {v : Value} {l : List Dv} (h : OwD e w u v l) (hb : Below u.heap.size u u') : OwD e w u' v l := ⟨ownsRow_below h.own hb, Below.on h.bel hb, fun x hx => (h.ok x hx).on hb, h.ap⟩
theorem El.kp {w u : World} {b o : Nat} {r : Rc} (h : El w b o r) {X : List Nat} (hk : Kp X w u) (hX : b ∉ X) : El u b o r :=
  ⟨Nat.lt_of_lt_of_le h.lt hk.size, hk.cell h.c0 hX, hk.cell h.c1 hX, hk.cell h.c2 hX, hk.cell h.c3 hX⟩
theorem RdC.kp {w u : World} {a : Option Addr} {n c : Nat} {l : List Rc} (h : RdC w a n c l) {X : List Nat} (hk : Kp X w u) (hX : 0 < n → ∀ x, a = some x → x.block ∉ X) : RdC u a n c l :=
  ⟨h.len, h.le, h.max, h.hnil, fun hn => by
    obtain ⟨b, off, e, h1, h2⟩ := h.pl hn
    exact ⟨b, off, e, Nat.lt_of_lt_of_le h1 hk.size, fun j r hr => (h2 j r hr).kp hk (by simpa using hX hn _ e)⟩, h.ok⟩
theorem DOk.kp {w u : World} {d : Dv} (h : DOk w d) {X : List Nat} (hk : Kp X w u) (hX : 0 < d.n → ∀ x, d.a = some x → x.block ∉ X) : DOk u d := ⟨h.ks, h.rc.kp hk hX⟩
theorem OwD.more {e : Nat} {w u u' : World} {v v' : Value} {l : List Dv} {x : Dv} (h : OwD e w u v l) (hx : DOk u x) (hxa : 0 < x.n → ∀ y, x.a = some y → v.ownBlock ≠ some y.block)
    (o2 : u'.ownsRow w.heap.size e 2 v' (l.length + 1) (dcs l ++ (dvv x).toList)) (g : u.grownBy u' v.ownBlock) (p : v'.ownBlock = v.ownBlock ∨ v'.ownBlock = some u.heap.size) : OwD e w u' v' (l ++ [x]) := by
  have hall : ∀ y ∈ l ++ [x], DOk u y ∧ (0 < y.n → ∀ z, y.a = some z → v.ownBlock ≠ some z.block) := fun y hy => by
    rcases List.mem_append.1 hy with hy | hy
    · exact ⟨h.ok y hy, h.ap y hy⟩
    · obtain rfl := List.mem_singleton.1 hy
      exact ⟨hx, hxa⟩
  refine ⟨by rw [List.length_append, dcs_append]; simpa [dcs] using o2, h.bel.grown g h.bel.size (fun k hk => (h.own.lt k hk).1), fun y hy => (hall y hy).1.kp (kp_of_grown g) (fun hn z hz hm => (hall y hy).2 hn z hz (by simpa using hm)), fun y hy hn z hz => ?_⟩
  rcases p with p | p
  · rw [p]
    exact (hall y hy).2 hn z hz
  · intro e2
    rw [p] at e2
    obtain ⟨b, off, e3, h4, _⟩ := (hall y hy).1.rc.pl hn
    rw [hz] at e3
    cases e3
    simp only [Option.some.injEq] at e2
    omega
theorem OwD.rd {e : Nat} {w u : World} {v : Value} {l : List Dv} (h : OwD e w u v l) : ∃ a c, v = .slice a l.length c ∧ RdD u a l.length c l := by
  rcases h.own.2 with ⟨rfl, h0⟩ | ⟨g, cap, cur, rfl, hb, hg, hn, hm, _, _⟩
  · obtain rfl : l = [] := List.eq_nil_of_length_eq_zero h0
    exact ⟨none, 0, rfl, RdD.nil u⟩
  · exact ⟨_, cap, rfl, ⟨rfl, hn, hm, (fun h => by cases h), fun _ => ⟨g, 0, rfl, (h.own.lt g rfl).2, fun j x hj i v hv => by
      have hi : i < 2 := by simpa [dvv] using (Array.getElem?_eq_some_iff.1 hv).1
      have hjl := (List.getElem?_eq_some_iff.1 hj).1
      rw [Nat.zero_add, h.own.cellAt _ (by omega)]
      exact dcs_at hj hv⟩, h.ok⟩⟩
theorem src_dv {P : Program} {T TS : Nat} (hu : P.underlying TS = some (.slice T)) (U : World) (d : Dv) : Src P 2 TS (.slice (some ⟨U.heap.size, 0, none⟩) 1 1) 1 (dvv d).toList (U.alloc (.cells (dvv d) T)) := by
  refine Src.ofSlice _ hu ⟨U.heap.size, 0, none⟩ 1 1 (dvv d).toList rfl (fun j u hu => ?_) (dvv_one d)
  rw [Go.WideShapes.add_plain, Nat.zero_add, Lib.cell_of_heap (heap_alloc_new U _)]
  simpa using hu
/-- A literal of one. -/
theorem rdd_one (U : World) (T : Nat) {d : Dv} (h : DOk U d) : RdD (U.alloc (.cells (dvv d) T)) (some ⟨U.heap.size, 0, none⟩) 1 1 [d] :=
  ⟨rfl, Nat.le_refl _, by decide, (fun h => by cases h), fun _ => ⟨U.heap.size, 0, rfl, by simp, fun j x hj i v hv => by
    match j, hj with
    | 0, hj =>
      cases hj
      rw [Nat.zero_mul, Nat.zero_add, Nat.zero_add, Lib.cell_of_heap (heap_alloc_new U _)]
      exact hv⟩, fun x hx => by
    obtain rfl := List.mem_singleton.1 hx
    exact h.on ((Below.refl _ _).alloc (Nat.le_refl _) _)⟩
theorem i64_wf {n : Int} (h : (Lit.int .i64 n).wf = true) : I64 n := by
  unfold I64
  simpa [Lit.wf, IntKind.min, IntKind.max, IntKind.signed, IntKind.bits] using h
theorem vrc_ok {y : List Int} (h : ∀ z ∈ y, I64 z) : (vrc y).Ok := by
  have k : ∀ i, -9223372036854775808 ≤ nm5 i y ∧ nm5 i y ≤ 9223372036854775807 := fun i => by
    rw [nm5, List.getD_eq_getElem?_getD]
    cases e : y[i]? with
    | none => simp
    | some z => exact h z (List.mem_of_getElem? e)
  exact ⟨k 2, k 3, k 4, k 5⟩
end Go.Proofs.Ytlkodgmnhphfcaa

/- Slices of rectangles, numbers and children: compared, copied, joined. Written by state/mk_stab.py. -/
namespace Go.Proofs.Ytlkodgmnhphfcaa
open Go Go.RowKit

theorem infoMP {P : Program} {e : TypeId} {z : Value} {n m : Nat} (h : (P.info? e).map (fun i => (i.zero, i.size, i.bytes)) = some (some z, n, m)) : ∃ i, P.info? e = some i ∧ i.zero = some z ∧ i.size = n ∧ i.bytes = m := by
  obtain ⟨i, hi, hz⟩ := Option.map_eq_some_iff.1 h
  simp only [Prod.mk.injEq] at hz
  exact ⟨i, hi, hz.1, hz.2.1, hz.2.2⟩
theorem fitsM {need b : Nat} (h : need ≤ 1000000000) (hb : b ≤ 32) : ∀ old, old < need → Builtin.nextslicecap need old * b ≤ 281474976710656 := fun old ho => by
  have h1 := nextslicecap_near ho
  have h2 : Builtin.nextslicecap need old * b ≤ Builtin.nextslicecap need old * 32 := Nat.mul_le_mul_left _ hb
  omega

/-- Whether two are the same. -/
def leq (x y : List Int) : Bool := decide (x = y)
def leqs (l m : List (List Int)) : Bool := decide (l = m)
theorem leqs_cons (x y : List Int) (l m : List (List Int)) : leqs (x :: l) (y :: m) = (leq x y && leqs l m) := by
  unfold leqs leq
  rw [Bool.eq_iff_iff]
  simp
theorem leqs_len {l m : List (List Int)} (h : l.length ≠ m.length) : leqs l m = false := by
  unfold leqs
  rw [decide_eq_false_iff_not]
  intro e
  exact h (by rw [e])
theorem leqs_same (l : List (List Int)) : leqs l l = true := decide_eq_true rfl
theorem leq_one (x y : Int) : leq [x] [y] = (x == y) := by
  unfold leq
  rw [Bool.eq_iff_iff]
  simp

/-- A row of slices: each cell of the block B bears one. -/
structure RdL (m : Nat) (w : World) (B : Nat) (L : List (List (List Int))) : Prop where
  each : ∀ (j : Nat) l, L[j]? = some l → ∃ a n c, w.cell? ⟨B, j, none⟩ = some (.slice a n c) ∧ RdM m w a n c l ∧ B < w.heap.size
theorem RdL.on {m : Nat} {w u : World} {B : Nat} {L : List (List (List Int))} (h : RdL m w B L) (hb : Below w.heap.size w u) : RdL m u B L :=
  ⟨fun j l hl => by
    obtain ⟨a, n, c, h1, h2, h3⟩ := h.each j l hl
    exact ⟨a, n, c, by rw [hb.cell h3]; exact h1, h2.on hb, Nat.lt_of_lt_of_le h3 hb.size⟩⟩
theorem flatten_take_snoc {L : List (List (List Int))} {j : Nat} {l : List (List Int)} (h : L[j]? = some l) : (L.take (j + 1)).flatten = (L.take j).flatten ++ l := by
  rw [List.take_add_one, h]
  simp
theorem flatten_take_le (L : List (List (List Int))) (j : Nat) : (L.take j).flatten.length ≤ L.flatten.length := by
  have : L.flatten = (L.take j).flatten ++ (L.drop j).flatten := by rw [← List.flatten_append, List.take_append_drop]
  rw [this, List.length_append]
  omega

theorem eqlM4_guard (x y : Operand) (xs ys : Array Value) (w : World) : (eqGuard .eql 36 x y (.agg xs) (.agg ys)).run Try.prog w = .ok () w := run_eqGuard_agg w .eql 36 x y xs ys (by kernel_rfl)
theorem neqM4_guard (x y : Operand) (xs ys : Array Value) (w : World) : (eqGuard .neq 36 x y (.agg xs) (.agg ys)).run Try.prog w = .ok () w := run_eqGuard_agg w .neq 36 x y xs ys (by kernel_rfl)
theorem equalM4 (x0 x1 x2 x3 y0 y1 y2 y3 : Int) (w : World) : (Op.equalIn 10000 36 (.agg #[.int .i64 x0, .int .i64 x1, .int .i64 x2, .int .i64 x3]) (.agg #[.int .i64 y0, .int .i64 y1, .int .i64 y2, .int .i64 y3])).run Try.prog w = .ok (leq [x0, x1, x2, x3] [y0, y1, y2, y3]) w := by
  have u3 := Try.underlying3
  have a3 := Try.isAgg3
  have z3 := Try.sizeOf3
  have hS : Try.prog.underlying 36 = some (.struct (Try.prog.fieldsOf 36)) := by kernel_rfl
  have hp : Try.prog.stoodInHeld 36 = false := by kernel_rfl
  rw [show (10000 : Nat) = 9999 + 1 from rfl, run_equalIn_agg w 9999 36 _ _ hS hp]
  simp only [Program.fieldsOf, Try.underlying36]
  go_simp
  unfold leq
  by_cases h0 : x0 = y0 <;> by_cases h1 : x1 = y1 <;> by_cases h2 : x2 = y2 <;> by_cases h3 : x3 = y3 <;> simp [h0, h1, h2, h3]
theorem eqlM4 (x0 x1 x2 x3 y0 y1 y2 y3 : Int) (w : World) : (binOp .eql 36 (.agg #[.int .i64 x0, .int .i64 x1, .int .i64 x2, .int .i64 x3]) (.agg #[.int .i64 y0, .int .i64 y1, .int .i64 y2, .int .i64 y3])).run Try.prog w = .ok (.bool (leq [x0, x1, x2, x3] [y0, y1, y2, y3])) w := by
  rw [run_eql_struct, equalM4]
  rfl
theorem neqM4 (x0 x1 x2 x3 y0 y1 y2 y3 : Int) (w : World) : (binOp .neq 36 (.agg #[.int .i64 x0, .int .i64 x1, .int .i64 x2, .int .i64 x3]) (.agg #[.int .i64 y0, .int .i64 y1, .int .i64 y2, .int .i64 y3])).run Try.prog w = .ok (.bool (!leq [x0, x1, x2, x3] [y0, y1, y2, y3])) w := by
  rw [run_neq_struct, equalM4]
  rfl



set_option maxRecDepth 100000 in
set_option maxHeartbeats 1000000 in
theorem equal1_any (a a' : Option Addr) (n c n' c' : Nat) (l m : List (List Int)) (w : World) (h : RdM 1 w a n c l) (h' : RdM 1 w a' n' c' m) :
    Calls Try.prog 67 #[.slice a n c, .slice a' n' c'] w fun e w' => e = .returned (.bool (leqs l m)) ∧ ∃ q, w' = w.drewN q := by
  have hl := h.len
  have hl' := h'.len
  have hn63 := h.small.1
  have hn63' := h'.small.1
  by_cases hnn : n = n'
  · subst hnn
    have H := hid h
    have H' := hid h'
    have HL := hid hl
    have HL' := hid hl'
    clear h h' hl hl'
    go_enter Try.func67, Try.ntmps67
    go_wp2
    go_loopw [13] (fun i wr => ∃ j : Nat, i = .int .i64 j ∧ j ≤ n ∧ leqs (l.drop j) (m.drop j) = leqs l m ∧ ∃ q, wr = w.drewN q) (fun i _ => n - (numOf i).toNat)
    case atStart => exact ⟨0, rfl, by omega, rfl, 0, rfl⟩
    case round =>
      obtain ⟨j, rfl, hj, hq, q, rfl⟩ := hrel
      by_cases hgo : j < n
      · have e1 : decide ((j : Int) < n) = true := decide_eq_true (by omega)
        have e2 : (j : Int) < n := by omega
        obtain ⟨blx, offx, x0, rfl, _, hx, c0⟩ := H.out.el1 hgo
        obtain ⟨bly, offy, y0, rfl, _, hy, d0⟩ := H'.out.el1 hgo
        have HD : Hid (leqs l m = (leq [x0] [y0] && leqs (l.drop (j + 1)) (m.drop (j + 1)))) := by
          rw [Hid, ← hq, drop_at' hx, drop_at' hy, leqs_cons]
        clear hx hy hq
        have hn0 : (x0 != y0) = !leq [x0] [y0] := by rw [leq_one]; rfl
        cases hs : leq [x0] [y0]
        · rw [hs] at hn0
          have HE : Hid (leqs l m = false) := by rw [Hid, HD.out, hs]; rfl
          clear HD
          go_wp2
          go_quiet (fail)
          go_wp2
          go_ret
          rw [HE.out, World.drewN_drewN]
          exact ⟨rfl, _, rfl⟩
        · rw [hs] at hn0
          have HE : Hid (leqs (l.drop (j + 1)) (m.drop (j + 1)) = leqs l m) := by rw [Hid, HD.out, hs]; rfl
          clear HD
          go_wp2
          go_quiet (fail)
          go_wp2
          go_roundw
          case rel => exact ⟨j + 1, by go_num, by omega, HE.out, _, rfl⟩
          case measure => simp [numOf]; omega
      · have e1 : decide ((j : Int) < n) = false := decide_eq_false (by omega)
        have HE : Hid (leqs l m = true) := by
          rw [Hid, ← hq, List.drop_eq_nil_of_le (by rw [HL.out]; omega), List.drop_eq_nil_of_le (by rw [HL'.out]; omega)]
          rfl
        clear hq
        go_wp2
        go_ret
        rw [HE.out]
        exact ⟨rfl, _, rfl⟩
  · have HE : Hid (leqs l m = false) := leqs_len (by omega)
    have e1 : ((n : Int) == n') = false := by simp; omega
    clear h h' hl hl'
    go_enter Try.func67, Try.ntmps67
    go_wp2
    go_ret
    rw [HE.out]
    exact ⟨rfl, 0, rfl⟩




set_option maxRecDepth 100000 in
set_option maxHeartbeats 1000000 in
theorem msamerects_any (a a' : Option Addr) (n c n' c' : Nat) (l m : List (List Int)) (w : World) (h : RdM 4 w a n c l) (h' : RdM 4 w a' n' c' m) :
    Calls Try.prog 8 #[.slice a n c, .slice a' n' c'] w fun e w' => e = .returned (.bool (leqs l m)) ∧ ∃ q, w' = w.drewN q := by
  have hl := h.len
  have hl' := h'.len
  have hn63 := h.small.1
  have hn63' := h'.small.1
  have hg := neqM4_guard
  have hne := neqM4
  by_cases hnn : n = n'
  · subst hnn
    have H := hid h
    have H' := hid h'
    have HL := hid hl
    have HL' := hid hl'
    clear h h' hl hl'
    go_enter Try.func8, Try.ntmps8
    go_wp2
    go_loopw [5] (fun i wr => ∃ j : Nat, i = .int .i64 j ∧ j ≤ n ∧ leqs (l.drop j) (m.drop j) = leqs l m ∧ ∃ q, wr = w.drewN q) (fun i _ => n - (numOf i).toNat)
    case atStart => exact ⟨0, rfl, by omega, rfl, 0, rfl⟩
    case round =>
      obtain ⟨j, rfl, hj, hq, q, rfl⟩ := hrel
      by_cases hgo : j < n
      · have e1 : decide ((j : Int) < n) = true := decide_eq_true (by omega)
        have e2 : (j : Int) < n := by omega
        obtain ⟨blx, offx, x0, x1, x2, x3, rfl, _, hx, c0, c1, c2, c3⟩ := H.out.el4 hgo
        obtain ⟨bly, offy, y0, y1, y2, y3, rfl, _, hy, d0, d1, d2, d3⟩ := H'.out.el4 hgo
        have HD : Hid (leqs l m = (leq [x0, x1, x2, x3] [y0, y1, y2, y3] && leqs (l.drop (j + 1)) (m.drop (j + 1)))) := by
          rw [Hid, ← hq, drop_at' hx, drop_at' hy, leqs_cons]
        clear hx hy hq
        have hn0 := hne x0 x1 x2 x3 y0 y1 y2 y3
        cases hs : leq [x0, x1, x2, x3] [y0, y1, y2, y3]
        · rw [hs] at hn0
          have HE : Hid (leqs l m = false) := by rw [Hid, HD.out, hs]; rfl
          clear HD
          go_wp2
          go_quiet (fail)
          go_wp2
          go_ret
          rw [HE.out, World.drewN_drewN]
          exact ⟨rfl, _, rfl⟩
        · rw [hs] at hn0
          have HE : Hid (leqs (l.drop (j + 1)) (m.drop (j + 1)) = leqs l m) := by rw [Hid, HD.out, hs]; rfl
          clear HD
          go_wp2
          go_quiet (fail)
          go_wp2
          go_roundw
          case rel => exact ⟨j + 1, by go_num, by omega, HE.out, _, rfl⟩
          case measure => simp [numOf]; omega
      · have e1 : decide ((j : Int) < n) = false := decide_eq_false (by omega)
        have HE : Hid (leqs l m = true) := by
          rw [Hid, ← hq, List.drop_eq_nil_of_le (by rw [HL.out]; omega), List.drop_eq_nil_of_le (by rw [HL'.out]; omega)]
          rfl
        clear hq
        go_wp2
        go_ret
        rw [HE.out]
        exact ⟨rfl, _, rfl⟩
  · have HE : Hid (leqs l m = false) := leqs_len (by omega)
    have e1 : ((n : Int) == n') = false := by simp; omega
    clear h h' hl hl'
    go_enter Try.func8, Try.ntmps8
    go_wp2
    go_ret
    rw [HE.out]
    exact ⟨rfl, 0, rfl⟩
theorem infoM4 : (Try.prog.info? 36).map (fun i => (i.zero, i.size, i.bytes)) = some (some (.agg #[.int .i64 0, .int .i64 0, .int .i64 0, .int .i64 0]), 4, 32) := by kernel_rfl
theorem infoM1 : (Try.prog.info? 3).map (fun i => (i.zero, i.size, i.bytes)) = some (some (.int .i64 0), 1, 8) := by kernel_rfl

set_option maxRecDepth 100000 in
theorem lrects_any (s : Option Addr) (n c : Nat) (l : List (List Int)) (w : World) (hr : RdM 4 w s n c l) (hn : n ≤ 1000000) :
    Calls Try.prog 13 #[.slice s n c] w fun e w' => ∃ v, e = .returned v ∧ OwM 4 36 w w' v l := by
  obtain ⟨i0, hi, hz0, hz1, hz2⟩ := infoMP infoM4
  have HS := hid (hr.src (P := Try.prog) (t := 30) (e := 36) Try.underlying30)
  have HO := hid (World.ownsRow_nil w w.heap.size 36 4)
  have HL := hid hr.len
  have HK := hid hr.size
  clear hr
  go_enter Try.func13, Try.ntmps13
  go_wp2_with (at_builtin; refine wpList_append_own_src _ rfl (.const (.slice none 0 0)) (.tmp 3) 30 30 rfl w.heap.size 36 i0 (.agg #[.int .i64 0, .int .i64 0, .int .i64 0, .int .i64 0]) 4 32 Try.underlying30 hi hz0 hz1 hz2 rfl _ _ _ rfl HO.out _ _ _ rfl HS.out (by simp only [maxLen]; omega) (fitsM (by omega) (by decide)) (Nat.le_refl _) ?_; intro v3 w3 o3 g3; have HO3 := hid o3; have HG3 := hid g3; clear o3 g3)
  go_ret
  have h3 := HO3.out
  rw [Nat.zero_add, List.nil_append] at h3
  exact ⟨_, rfl, by rw [HL.out]; exact h3, (kp_of_grown HG3.out).below (Nat.le_refl _) (fun k hk => by cases hk), HK.out⟩






end Go.Proofs.Ytlkodgmnhphfcaa

/- Structs of six numbers (views) compared. -/
namespace Go.Proofs.Ytlkodgmnhphfcaa
open Go Go.RowKit

theorem eqlM6_guard (x y : Operand) (xs ys : Array Value) (w : World) : (eqGuard .eql 40 x y (.agg xs) (.agg ys)).run Try.prog w = .ok () w := run_eqGuard_agg w .eql 40 x y xs ys (by kernel_rfl)
theorem neqM6_guard (x y : Operand) (xs ys : Array Value) (w : World) : (eqGuard .neq 40 x y (.agg xs) (.agg ys)).run Try.prog w = .ok () w := run_eqGuard_agg w .neq 40 x y xs ys (by kernel_rfl)
theorem equalM6 (x0 x1 x2 x3 x4 x5 y0 y1 y2 y3 y4 y5 : Int) (w : World) : (Op.equalIn 10000 40 (.agg #[.int .i64 x0, .int .i64 x1, .int .i64 x2, .int .i64 x3, .int .i64 x4, .int .i64 x5]) (.agg #[.int .i64 y0, .int .i64 y1, .int .i64 y2, .int .i64 y3, .int .i64 y4, .int .i64 y5])).run Try.prog w = .ok (leq [x0, x1, x2, x3, x4, x5] [y0, y1, y2, y3, y4, y5]) w := by
  have u3 := Try.underlying3
  have a3 := Try.isAgg3
  have z3 := Try.sizeOf3
  have hS : Try.prog.underlying 40 = some (.struct (Try.prog.fieldsOf 40)) := by kernel_rfl
  have hp : Try.prog.stoodInHeld 40 = false := by kernel_rfl
  rw [show (10000 : Nat) = 9999 + 1 from rfl, run_equalIn_agg w 9999 40 _ _ hS hp]
  simp only [Program.fieldsOf, Try.underlying40]
  go_simp
  unfold leq
  by_cases h0 : x0 = y0 <;> by_cases h1 : x1 = y1 <;> by_cases h2 : x2 = y2 <;> by_cases h3 : x3 = y3 <;> by_cases h4 : x4 = y4 <;> by_cases h5 : x5 = y5 <;> simp [h0, h1, h2, h3, h4, h5]
theorem eqlM6 (x0 x1 x2 x3 x4 x5 y0 y1 y2 y3 y4 y5 : Int) (w : World) : (binOp .eql 40 (.agg #[.int .i64 x0, .int .i64 x1, .int .i64 x2, .int .i64 x3, .int .i64 x4, .int .i64 x5]) (.agg #[.int .i64 y0, .int .i64 y1, .int .i64 y2, .int .i64 y3, .int .i64 y4, .int .i64 y5])).run Try.prog w = .ok (.bool (leq [x0, x1, x2, x3, x4, x5] [y0, y1, y2, y3, y4, y5])) w := by
  rw [run_eql_struct, equalM6]
  rfl
theorem neqM6 (x0 x1 x2 x3 x4 x5 y0 y1 y2 y3 y4 y5 : Int) (w : World) : (binOp .neq 40 (.agg #[.int .i64 x0, .int .i64 x1, .int .i64 x2, .int .i64 x3, .int .i64 x4, .int .i64 x5]) (.agg #[.int .i64 y0, .int .i64 y1, .int .i64 y2, .int .i64 y3, .int .i64 y4, .int .i64 y5])).run Try.prog w = .ok (.bool (!leq [x0, x1, x2, x3, x4, x5] [y0, y1, y2, y3, y4, y5])) w := by
  rw [run_neq_struct, equalM6]
  rfl

end Go.Proofs.Ytlkodgmnhphfcaa

/- Repaint: the contracts of the program's at, same, place, places, and of the document's rect. -/
namespace Go.Proofs.Ytlkodgmnhphfcaa
open Go Go.RowKit

theorem RdM.one {m : Nat} {w : World} {b off n c : Nat} {l : List (List Int)} (h : RdM m w (some ⟨b, off, none⟩) n c l) {i : Nat} {y : List Int} (hi : l[i]? = some y) : RdM m w (some ⟨b, off + i * m, none⟩) 1 1 [y] := by
  have hin : i < n := by
    rw [← h.len]
    exact (List.getElem?_eq_some_iff.1 hi).1
  obtain ⟨b', off', e, h1, h2⟩ := h.pl (by omega)
  cases e
  exact ⟨rfl, Nat.le_refl _, by decide, (fun h => by cases h), fun _ => ⟨b, off + i * m, rfl, h1, fun j y' hj k z hz => by
    match j, hj with
    | 0, hj =>
      cases hj
      rw [Nat.zero_mul, Nat.zero_add, Nat.add_assoc]
      exact h2 i y hi k z hz⟩, fun y' hy => by
    obtain rfl := List.mem_singleton.1 hy
    exact h.size _ (List.mem_of_getElem? hi)⟩
theorem RdM.zero {m : Nat} (w : World) (a : Option Addr) : RdM m w a 0 0 [] := ⟨rfl, Nat.le_refl _, Nat.zero_le _, fun _ => rfl, fun h => absurd h (by omega), by simp⟩

set_option maxRecDepth 100000 in
theorem qat_any (a : Option Addr) (n c : Nat) (l : List (List Int)) (w : World) (h : RdM 6 w a n c l) (i : Nat) (hi : i ≤ 1000000000) :
    Calls Try.prog 14 #[.slice a n c, .int .i64 i] w fun e w' => (∃ a', e = .returned (.slice a' (l[i]?).toList.length (l[i]?).toList.length) ∧ RdM 6 w a' (l[i]?).toList.length (l[i]?).toList.length (l[i]?).toList) ∧ w' = w := by
  have hle := h.le
  have hnil := h.hnil
  have hs := h.small
  by_cases hgo : i < n
  · obtain ⟨b, off, y, rfl, _, hy, _⟩ := h.at_ hgo
    have HR := hid (h.one hy)
    rw [hy]
    have e1 : min (i : Int) (n : Int) = (i : Int) := by omega
    have e2 : min ((i : Int) + 1) (n : Int) = ((i + 1 : Nat) : Int) := by omega
    have e3 : i ≤ i + 1 := by omega
    have e4 : i + 1 ≤ c := by omega
    obtain ⟨t, ht⟩ : ∃ t, i + 1 = t := ⟨_, rfl⟩
    have HT := hid ht
    rw [ht] at e2 e3 e4
    have e5 : t - i = 1 := by omega
    have e6 : t ≤ n := by omega
    clear h hy ht
    go_enter Try.func14, Try.ntmps14
    go_wp2
    go_ret
    exact ⟨⟨_, rfl, HR.out⟩, rfl⟩
  · have e0 : l[i]? = none := List.getElem?_eq_none (by rw [h.len]; omega)
    rw [e0]
    have e1 : min (i : Int) (n : Int) = (n : Int) := by omega
    have e2 : min ((i : Int) + 1) (n : Int) = (n : Int) := by omega
    clear h e0
    go_enter Try.func14, Try.ntmps14
    go_wp2
    go_ret
    exact ⟨⟨_, rfl, RdM.zero _ _⟩, rfl⟩

set_option maxRecDepth 100000 in
set_option maxHeartbeats 1000000 in
theorem qsame_any (a a' : Option Addr) (o v : Option (List Int)) (w : World) (h : RdM 6 w a o.toList.length o.toList.length o.toList) (h' : RdM 6 w a' v.toList.length v.toList.length v.toList) (hn : o ≠ none ∨ v ≠ none) :
    Calls Try.prog 15 #[.slice a o.toList.length o.toList.length, .slice a' v.toList.length v.toList.length] w fun e w' => e = .returned (.bool (decide (o = v))) ∧ ∃ q, w' = w.drewN q := by
  have hg := eqlM6_guard
  have hne := eqlM6
  cases o with
  | none =>
    cases v with
    | none => exact absurd hn (by simp)
    | some y =>
      rw [show decide ((none : Option (List Int)) = some y) = false by simp]
      clear h h' hn
      go_enter Try.func15, Try.ntmps15
      go_wp2
      go_quiet (fail)
      go_wp2
      go_ret
      exact ⟨rfl, _, rfl⟩
  | some x =>
    cases v with
    | none =>
      rw [show decide (some x = (none : Option (List Int))) = false by simp]
      clear h h' hn
      go_enter Try.func15, Try.ntmps15
      go_wp2
      go_quiet (fail)
      go_wp2
      go_ret
      exact ⟨rfl, _, rfl⟩
    | some y =>
      obtain ⟨blx, offx, x0, x1, x2, x3, x4, x5, rfl, _, hx, c0, c1, c2, c3, c4, c5⟩ := RdM.el6 (j := 0) h (show 0 < 1 by decide)
      obtain ⟨bly, offy, y0, y1, y2, y3, y4, y5, rfl, _, hy, d0, d1, d2, d3, d4, d5⟩ := RdM.el6 (j := 0) h' (show 0 < 1 by decide)
      simp only [Option.toList_some, List.getElem?_cons_zero, Option.some.injEq] at hx hy
      subst hx hy
      rw [Nat.zero_mul, Nat.add_zero] at c0 c1 c2 c3 c4 c5 d0 d1 d2 d3 d4 d5
      have hn0 := hne x0 x1 x2 x3 x4 x5 y0 y1 y2 y3 y4 y5
      have HE : Hid (decide (some [x0, x1, x2, x3, x4, x5] = some [y0, y1, y2, y3, y4, y5]) = leq [x0, x1, x2, x3, x4, x5] [y0, y1, y2, y3, y4, y5]) := by
        rw [Hid, leq]
        simp only [Option.some.injEq]
      rw [HE.out]
      generalize leq [x0, x1, x2, x3, x4, x5] [y0, y1, y2, y3, y4, y5] = r at hn0 ⊢
      clear h h' hn HE hne
      simp only [Option.toList_some, List.length_singleton]
      go_enter Try.func15, Try.ntmps15
      go_wp2
      go_quiet (fail)
      go_wp2
      go_ret
      exact ⟨rfl, _, rfl⟩

set_option maxRecDepth 100000 in
theorem qplace_any (z0 z1 z2 z3 z4 z5 : Int) (w : World) :
    Calls Try.prog 26 #[.agg #[.int .i64 z0, .int .i64 z1, .int .i64 z2, .int .i64 z3, .int .i64 z4, .int .i64 z5]] w fun e w' => e = .returned (.agg #[.int .i64 z2, .int .i64 z3, .int .i64 z4, .int .i64 z5]) ∧ Below w.heap.size w w' := by
  have hX := (bx_new (w.alloc (.cells #[.int .i64 z0, .int .i64 z1, .int .i64 z2, .int .i64 z3, .int .i64 z4, .int .i64 z5] 40)) ⟨z2, z3, z4, z5⟩).obj
  rw [size_new] at hX
  go_enter Try.func26, Try.ntmps26
  go_wp2
  refine bodyPost_ret (results_cell_row rfl _ _ (w.heap.size + 1) _ _ _ _ rfl hX Try.underlying36 rfl infoR) rfl ?_
  exact ⟨rfl, ((Below.refl _ _).alloc (Nat.le_refl _) _).alloc (by simp) _⟩

set_option maxRecDepth 100000 in
theorem qrrect_any (z0 z1 z2 z3 z4 z5 : Int) (w : World) :
    Calls Try.prog 21 #[.agg #[.int .i64 z0, .int .i64 z1, .int .i64 z2, .int .i64 z3, .int .i64 z4, .int .i64 z5]] w fun e w' => e = .returned (.agg #[.int .i64 z2, .int .i64 z3, .int .i64 z4, .int .i64 z5]) ∧ Below w.heap.size w w' := by
  have hX := (bx_new (w.alloc (.cells #[.int .i64 z0, .int .i64 z1, .int .i64 z2, .int .i64 z3, .int .i64 z4, .int .i64 z5] 40)) ⟨z2, z3, z4, z5⟩).obj
  rw [size_new] at hX
  go_enter Try.func21, Try.ntmps21
  go_wp2
  refine bodyPost_ret (results_cell_row rfl _ _ (w.heap.size + 1) _ _ _ _ rfl hX Try.underlying36 rfl infoR) rfl ?_
  exact ⟨rfl, ((Below.refl _ _).alloc (Nat.le_refl _) _).alloc (by simp) _⟩

set_option maxRecDepth 100000 in
set_option maxHeartbeats 1000000 in
theorem qplaces_any (a : Option Addr) (n c : Nat) (l : List (List Int)) (w : World) (h : RdM 6 w a n c l) (hv : ∀ y ∈ l, (vrc y).Ok) (hn : n ≤ 1000000) :
    Calls Try.prog 17 #[.slice a n c] w (Ret w (l.map vrc)) := by
  obtain ⟨i0, hi, hz0, hz1, hz2⟩ := info3 infoC
  have HR := hid h
  have HL := hid h.len
  have hs := h.small
  have HV : Hid (∀ j : Nat, ∀ r ∈ (l.take j).map vrc, r.Ok) := fun j r hr => by
    obtain ⟨y, hy, rfl⟩ := List.mem_map.1 hr
    exact hv y (List.mem_of_mem_take hy)
  clear h hv
  go_enter Try.func17, Try.ntmps17
  go_wp2
  go_loopw [3, 8] (fun v i wr => ∃ j : Nat, i = .int .i64 j ∧ j ≤ n ∧ OwC w wr v ((l.take j).map vrc)) (fun _ i _ => n - (numOf i).toNat)
  case atStart => exact ⟨0, rfl, by omega, OwC.nil w⟩
  case round =>
    obtain ⟨j, rfl, hj, hO⟩ := hrel
    have HO := hid hO
    have hvj := HV.out j
    have HT : Hid (((l.take j).map vrc).length = j) := by rw [Hid, List.length_map, List.length_take, HL.out]; omega
    obtain ⟨av, cv, rfl, _⟩ := rdc_of_owns hO.own hvj
    rw [HT.out] at HO ⊢
    clear hO hvj
    by_cases hgo : j < n
    · have e1 : decide ((j : Int) < n) = true := decide_eq_true (by omega)
      have e2 : (j : Int) < n := by omega
      obtain ⟨b, off, z0, z1, z2, z3, z4, z5, rfl, hb, hy, d0, d1, d2, d3, d4, d5⟩ := (HR.out.on HO.out.bel).el6 hgo
      have HS : Hid ((l.take (j + 1)).map vrc = (l.take j).map vrc ++ [⟨z2, z3, z4, z5⟩]) := by
        rw [Hid, List.take_add_one, hy, List.map_append]
        rfl
      have hA := bel_new wr (.cells #[.int .i64 z0, .int .i64 z1, .int .i64 z2, .int .i64 z3, .int .i64 z4, .int .i64 z5] 40)
      have HA := hid hA
      clear hy hA
      go_wp2_with fail
      refine (qplace_any z0 z1 z2 z3 z4 z5 _).mono ?_
      rintro e w2 ⟨rfl, hb2⟩
      have HO2 := hid (HO.out.on (Below.on HA.out hb2))
      have HSR := hid (srcR w2 ⟨z2, z3, z4, z5⟩)
      have HO3 := hid (HO2.out.on (below_new w2 (ob ⟨z2, z3, z4, z5⟩)))
      clear hb2 HO HO2 HA d0 d1 d2 d3 d4 d5
      go_wp2_with (at_builtin; refine wpList_append_own_src _ rfl (.tmp 12) (.tmp 15) 30 30 rfl w.heap.size 36 i0 (.agg #[.int .i64 0, .int .i64 0, .int .i64 0, .int .i64 0]) 4 32 Try.underlying30 hi hz0 hz1 hz2 rfl _ _ _ rfl HO3.out.own _ 1 _ rfl HSR.out (by rw [HT.out]; simp only [maxLen]; omega) (fits32 (by rw [HT.out]; omega)) HO3.out.size ?_; intro v3 w3 o3 g3; have HO5 := hid (HO3.out.grown (m := [⟨z2, z3, z4, z5⟩]) o3 g3); clear o3 g3)
      go_roundw
      case rel => exact ⟨j + 1, by go_num, by omega, by rw [HS.out]; exact HO5.out⟩
      case measure => simp [numOf]; omega
    · have e1 : decide ((j : Int) < n) = false := decide_eq_false (by omega)
      have HE : Hid (l.take j = l) := List.take_of_length_le (by rw [HL.out]; omega)
      have hF := HO.out.ret (HV.out j)
      rw [HE.out] at hF
      have HF := hid hF
      clear hF
      go_wp2
      go_ret
      exact HF.out
end Go.Proofs.Ytlkodgmnhphfcaa

/- The contract of slices.DeleteFunc with the program's Empty. -/
namespace Go.Proofs.Ytlkodgmnhphfcaa
open Go Go.RowKit

theorem setRow_own {w u : World} {base e size m c g : Nat} {cur : Array Value} (xs : List Value) (hb : base ≤ g) (hg : u.heap[g]? = some (.cells cur e (0, 0))) (hm : m ≤ c) (hc : c ≤ maxLen) (hcs : cur.size = c * size) (new : List Value) (hn : new.length = cur.size) (hx : new.take (m * size) = xs) (hl : xs.length = m * size) (h : Below base w u) :
    (u.setRow g new.toArray).ownsRow base e size (.slice (some ⟨g, 0, none⟩) m c) m xs ∧ Below base w (u.setRow g new.toArray) := by
  exact ⟨⟨hl, .inr ⟨g, c, new.toArray, rfl, hb, setRow_heap u g cur _ e _ hg, hm, hc, by simpa [hn] using hcs, by simpa using hx⟩⟩, below_setRow h hb _⟩

/-- 'copy' onto a row of the call's own that is just as long. -/
theorem copy_own {w u : World} {g : Nat} {a : Option Addr} {n c : Nat} {l : List Rc} {xs : List Value} (hO : u.ownsRow w.heap.size 36 4 (.slice (some ⟨g, 0, none⟩) n n) n xs) (hB : Below w.heap.size w u) (h : RdC u a n c l) :
    ∃ u', (∀ ty : TypeId, (Builtin.copy_ #[30, 30] ty #[.slice (some ⟨g, 0, none⟩) n n, .slice a n c]).run Try.prog u = .ok (.int .i64 n) u') ∧ OwC w u' (.slice (some ⟨g, 0, none⟩) n n) l := by
  obtain ⟨i0, hi, hz0, hz1, hz2⟩ := info3 infoC
  have hl := h.len
  rcases hO.2 with ⟨e0, _⟩ | ⟨g', cap, cur, e0, hb, hg, hn, hm, hcs, ht⟩
  · cases e0
  · cases e0
    rcases Nat.eq_zero_or_pos n with h0 | h0
    · subst h0
      obtain rfl : l = [] := List.eq_nil_of_length_eq_zero hl
      refine ⟨u, ?_, ⟨?_, hB⟩⟩
      · intro ty
        cases a with
        | none => simp [Builtin.copy_, run_underlying Try.underlying30, Builtin.lenOf, Builtin.firstCells, sizeOf, typeInfo, hi, storeCells, goInt]
        | some x => simp [Builtin.copy_, run_underlying Try.underlying30, Builtin.lenOf, Builtin.firstCells, sizeOf, typeInfo, hi, storeCells, loadCells, loadCellsFrom, goInt]
      · exact ⟨rfl, .inr ⟨g, 0, cur, rfl, hb, hg, hn, hm, hcs, by simp [rccs]⟩⟩
    · obtain ⟨b, off, rfl, hbl, hel⟩ := h.pl h0
      have hcl := cells_of hel
      have hld := run_loadCells_list (P := Try.prog) u ⟨b, off, none⟩ (rccs l) (fun j v hj => by rw [Go.WideShapes.add_plain]; exact hcl j v hj)
      have hst := run_storeCells_at Try.prog g 0 36 (rccs l) 0 cur u hg (by rw [rccs_length, hl, hcs]; simp) (rccs_one l)
      have hlen : (rccs l).length = n * 4 := by rw [rccs_length, hl]
      rw [hlen] at hld
      obtain ⟨o1, o2⟩ := setRow_own (w := w) (rccs l) hb hg hn hm hcs (cur.toList.take 0 ++ rccs l ++ cur.toList.drop (0 + (rccs l).length)) (by simp [hlen, hcs]) (by simp [hlen]) hlen hB
      refine ⟨_, ?_, ⟨by rw [hl]; exact o1, o2⟩⟩
      intro ty
      simp [Builtin.copy_, run_underlying Try.underlying30, Builtin.lenOf, Builtin.firstCells, sizeOf, typeInfo, hi, hz1, hld, hst, goInt]

/-- 'clear' of what is behind the first i of a row of the call's own. -/
theorem clear_own {w u : World} {g n c : Nat} {l : List Rc} (hO : OwC w u (.slice (some ⟨g, 0, none⟩) n c) l) (hn : l.length = n) {i : Nat} (hi : i < n) :
    ∃ u', (∀ (ty : TypeId) (c' : Nat), (Builtin.clear_ #[30] ty #[.slice (some ⟨g, i * 4, none⟩) (n - i) c']).run Try.prog u = .ok (.tuple #[]) u') ∧ OwC w u' (.slice (some ⟨g, 0, none⟩) i c) (l.take i) := by
  have hv : ∀ w', (zeroValue 36).run Try.prog w' = .ok (.agg #[.int .i64 0, .int .i64 0, .int .i64 0, .int .i64 0]) w' := Try.zeroValue36
  have own := hO.own
  rw [hn] at own
  rcases own.2 with ⟨e0, _⟩ | ⟨g', cap, cur, e0, hb, hg, hnc, hm, hcs, ht⟩
  · cases e0
  · cases e0
    obtain ⟨Z, hZ⟩ : ∃ Z, Z = (Builtin.zeroCells (Value.agg #[.int .i64 0, .int .i64 0, .int .i64 0, .int .i64 0]).cells (n - i)).toList := ⟨_, rfl⟩
    have hZl : Z.length = (n - i) * 4 := by rw [hZ]; simp [size_zeroCells, Value.cells]
    have hZ1 : ∀ v ∈ Z, v.oneCell' = true := fun v hv => by
      rw [hZ] at hv
      simp only [Builtin.zeroCells, Value.cells, List.size_toArray, List.length_cons, List.length_nil, Array.toList_map, List.mem_map] at hv
      obtain ⟨k, _, rfl⟩ := hv
      obtain h | h | h | h : k % (0 + 1 + 1 + 1 + 1) = 0 ∨ k % (0 + 1 + 1 + 1 + 1) = 1 ∨ k % (0 + 1 + 1 + 1 + 1) = 2 ∨ k % (0 + 1 + 1 + 1 + 1) = 3 := by omega
      all_goals
        rw [h]
        rfl
    have hst := run_storeCells_at Try.prog g (i * 4) 36 Z 0 cur u hg (by rw [hZl, hcs]; omega) hZ1
    have hlt : (rccs (l.take i)).length = i * 4 := by rw [rccs_length, List.length_take]; omega
    have hpre : cur.toList.take (i * 4) = rccs (l.take i) := by
      have := congrArg (List.take (i * 4)) ht
      rw [List.take_take, Nat.min_eq_left (by omega)] at this
      rw [this]
      have e : rccs l = rccs (l.take i) ++ rccs (l.drop i) := by rw [← rccs_append, List.take_append_drop]
      rw [e, ← hlt, List.take_left]
    obtain ⟨o1, o2⟩ := setRow_own (w := w) (m := i) (rccs (l.take i)) hb hg (by omega) hm hcs (cur.toList.take (i * 4 + 0) ++ Z ++ cur.toList.drop (i * 4 + 0 + Z.length)) (by simp [hZl, hcs]; omega) (by rw [Nat.add_zero, List.append_assoc, hpre, ← hlt, List.take_left]) hlt hO.bel
    refine ⟨_, ?_, ⟨by rw [List.length_take, Nat.min_eq_left (by omega)]; exact o1, o2⟩⟩
    intro ty c'
    obtain ⟨m, hm2⟩ : ∃ m, n - i = m + 1 := ⟨n - i - 1, by omega⟩
    rw [hm2] at hZ ⊢
    simp only [Nat.add_zero] at hst ⊢
    simp [Builtin.clear_, run_underlying Try.underlying30, hv, ← hZ, hst]

theorem rccs_set {l : List Rc} {j : Nat} (hj : j < l.length) (r : Rc) : rccs (l.set j r) = ((((rccs l).set (j * 4) (.int .i64 r.x)).set (j * 4 + 1) (.int .i64 r.y)).set (j * 4 + 2) (.int .i64 r.w)).set (j * 4 + 3) (.int .i64 r.h) := by
  induction l generalizing j with
  | nil => simp at hj
  | cons x l ih =>
    cases j with
    | zero => simp [rccs_cons]
    | succ j =>
      rw [List.set_cons_succ, rccs_cons, rccs_cons, ih (by simpa using hj), show (j + 1) * 4 = j * 4 + 4 by omega]
      simp only [show j * 4 + 4 + 1 = j * 4 + 1 + 4 by omega, show j * 4 + 4 + 2 = j * 4 + 2 + 4 by omega, show j * 4 + 4 + 3 = j * 4 + 3 + 4 by omega, List.set_cons_succ]

/-- A rectangle written at a place of a block. -/
def sto (u : World) (g o : Nat) (a : Rc) : World := (((u.setCell ⟨g, o, none⟩ (.int .i64 a.x)).setCell ⟨g, o + 1, none⟩ (.int .i64 a.y)).setCell ⟨g, o + 2, none⟩ (.int .i64 a.w)).setCell ⟨g, o + 3, none⟩ (.int .i64 a.h)
theorem below_sto {B : Nat} {w u : World} {g : Nat} (h : Below B w u) (hg : B ≤ g) (o : Nat) (a : Rc) : Below B w (sto u g o a) := (((h.setCell (p := ⟨g, o, none⟩) hg _).setCell (p := ⟨g, o + 1, none⟩) hg _).setCell (p := ⟨g, o + 2, none⟩) hg _).setCell (p := ⟨g, o + 3, none⟩) hg _
theorem OwC.sto {w u : World} {g n c : Nat} {l : List Rc} (h : OwC w u (.slice (some ⟨g, 0, none⟩) n c) l) (hn : l.length = n) {j : Nat} (hj : j < n) (r : Rc) : OwC w (sto u g (j * 4) r) (.slice (some ⟨g, 0, none⟩) n c) (l.set j r) := by
  have h1 := h.own
  rw [hn] at h1
  have hg := (h1.lt g rfl).1
  have h2 := (h1.stored (j * 4) (.int .i64 r.x)).1
  have h3 := (h2.stored (j * 4 + 1) (.int .i64 r.y)).1
  have h4 := (h3.stored (j * 4 + 2) (.int .i64 r.w)).1
  have h5 := (h4.stored (j * 4 + 3) (.int .i64 r.h)).1
  exact ⟨by rw [List.length_set, hn, rccs_set (by omega)]; exact h5, below_sto h.bel hg _ _⟩
theorem OwC.fz {w u : World} {g n c : Nat} {l : List Rc} (h : OwC w u (.slice (some ⟨g, 0, none⟩) n c) l) (hn : l.length = n) (k : Nat) : u.frozen? ⟨g, k, none⟩ = false := by
  have h1 := h.own
  rw [hn] at h1
  exact h1.frozenAt k
theorem OwC.el {w u : World} {g n c : Nat} {l : List Rc} (h : OwC w u (.slice (some ⟨g, 0, none⟩) n c) l) (hn : l.length = n) : g < u.heap.size ∧ w.heap.size ≤ g ∧ ∀ j r, l[j]? = some r → El u g (j * 4) r := by
  have h1 := h.own
  rw [hn] at h1
  obtain ⟨g1, g2, g3⟩ := el_of_owns h1
  exact ⟨g1, g2, fun j r hr => by have := g3 j r hr; rwa [Nat.zero_add] at this⟩

/-- Those that have points. -/
def flt (l : List Rc) : List Rc := l.filter fun r => !emp r

/-- DeleteFunc's state. -/
structure Dl (l L : List Rc) (i j : Nat) : Prop where
  len : L.length = l.length
  ij : i < j
  fst : L.take i = flt (l.take j)
  snd : L.drop j = l.drop j
theorem Dl.skip {l L : List Rc} {i j : Nat} (h : Dl l L i j) {r : Rc} (hr : l[j]? = some r) (he : emp r = true) : Dl l L i (j + 1) := by
  refine ⟨h.len, by have := h.ij; omega, ?_, ?_⟩
  · rw [h.fst, flt, flt, List.take_add_one, hr, List.filter_append]
    simp [he]
  · have := congrArg List.tail h.snd
    simpa using this
theorem Dl.keep {l L : List Rc} {i j : Nat} (h : Dl l L i j) {r : Rc} (hr : l[j]? = some r) (he : emp r = false) : Dl l (L.set i r) (i + 1) (j + 1) := by
  have hij := h.ij
  have hj : j < l.length := (List.getElem?_eq_some_iff.1 hr).1
  have hl := h.len
  refine ⟨by rw [List.length_set]; exact hl, by omega, ?_, ?_⟩
  · have e : (L.set i r).take (i + 1) = L.take i ++ [r] := by
      rw [List.take_add_one, List.take_set_of_le (Nat.le_refl _), List.getElem?_set_self (by omega)]
      rfl
    rw [e, h.fst, flt, flt, List.take_add_one, hr, List.filter_append]
    simp [he]
  · rw [List.drop_set_of_lt (by omega)]
    have := congrArg List.tail h.snd
    simpa using this
theorem flt_none {l : List Rc} (h : ∀ (k : Nat) (r : Rc), l[k]? = some r → emp r = false) : flt l = l := by
  refine filter_whole fun r hr => ?_
  obtain ⟨k, hk⟩ := List.mem_iff_getElem?.1 hr
  rw [h k r hk]
  rfl
theorem idx_some {p : Rc → Bool} : ∀ {l : List Rc} {k : Nat}, idx p l = some k → (∃ r, l[k]? = some r ∧ p r = true) ∧ ∀ j r, j < k → l[j]? = some r → p r = false
  | [], k, h => by simp [idx] at h
  | x :: l, k, h => by
    rw [idx] at h
    split at h
    · rename_i hx
      cases h
      exact ⟨⟨x, rfl, hx⟩, fun j r hj => absurd hj (by omega)⟩
    · rename_i hx
      obtain ⟨m, hm, rfl⟩ := Option.map_eq_some_iff.1 h
      obtain ⟨⟨r, hr, hp⟩, h2⟩ := idx_some hm
      refine ⟨⟨r, by rw [List.getElem?_cons_succ]; exact hr, hp⟩, fun j r hj hr => ?_⟩
      cases j with
      | zero => simp at hr; subst hr; simpa using hx
      | succ j => rw [List.getElem?_cons_succ] at hr; exact h2 j r (by omega) hr
theorem idx_none {p : Rc → Bool} : ∀ {l : List Rc}, idx p l = none → ∀ (j : Nat) r, l[j]? = some r → p r = false
  | [], _, j, r, hr => by simp at hr
  | x :: l, h, j, r, hr => by
    rw [idx] at h
    split at h
    · cases h
    · rename_i hx
      cases j with
      | zero => simp at hr; subst hr; simpa using hx
      | succ j => rw [List.getElem?_cons_succ] at hr; exact idx_none (by simpa using h) j r hr
theorem Dl.start {l : List Rc} {k : Nat} (h : idx emp l = some k) : Dl l l k (k + 1) := by
  obtain ⟨⟨r, hr, hp⟩, h2⟩ := idx_some h
  refine ⟨rfl, by omega, ?_, rfl⟩
  rw [flt, List.take_add_one, hr, List.filter_append]
  have : (l.take k).filter (fun r => !emp r) = l.take k := filter_whole fun x hx => by
    obtain ⟨j, hj⟩ := List.mem_iff_getElem?.1 hx
    have hjk : j < k := by
      have := (List.getElem?_eq_some_iff.1 hj).1
      rw [List.length_take] at this
      omega
    rw [List.getElem?_take_of_lt hjk] at hj
    rw [h2 j x hjk hj]
    rfl
  rw [this]
  simp [hp]

end Go.Proofs.Ytlkodgmnhphfcaa

/- The contracts of the program's tooFar and Shift. -/
namespace Go.Proofs.Ytlkodgmnhphfcaa
open Go Go.RowKit

def far (n : Int) : Bool := decide (n < -16777216) || decide (16777216 < n)


theorem far_no {n : Int} (h : far n = false) : -16777216 ≤ n ∧ n ≤ 16777216 := by
  simp [far] at h
  omega

/-- A region, moved. -/
def shf (l : List Rc) (x y : Int) : List Rc := if rgn l = true ∧ far x = false ∧ far y = false then mk fst1 (shl l x y) [] else []
theorem shf_ok (l : List Rc) (x y : Int) : ∀ r ∈ shf l x y, r.Ok := fun r hr => by
  unfold shf at hr
  split at hr
  · rename_i h
    exact ((mk_all (f := fst1) rfl (shl_bands (rgn_iff.1 h.1).bands x y).ck (by simp)).1.ck r hr).ok
  · cases hr
/-- The first j moved. -/
def mvd (l : List Rc) (x y : Int) (j : Nat) : List Rc := (l.take j).map (fun r => bnd (sh r x y)) ++ l.drop j
theorem mvd_len (l : List Rc) (x y : Int) (j : Nat) : (mvd l x y j).length = l.length := by
  rw [mvd, List.length_append, List.length_map, ← List.length_append, List.take_append_drop]
theorem mvd_at {l : List Rc} {x y : Int} {j : Nat} {r : Rc} (h : l[j]? = some r) : (mvd l x y j)[j]? = some r := by
  have hj : j < l.length := (List.getElem?_eq_some_iff.1 h).1
  have hl : ((l.take j).map (fun r => bnd (sh r x y))).length = j := by simp; omega
  rw [mvd, List.getElem?_append_right (by omega), hl, Nat.sub_self, List.getElem?_drop, Nat.add_zero]
  exact h
theorem mvd_set {l : List Rc} {x y : Int} {j : Nat} {r : Rc} (h : l[j]? = some r) : (mvd l x y j).set j (bnd (sh r x y)) = mvd l x y (j + 1) := by
  have hj : j < l.length := (List.getElem?_eq_some_iff.1 h).1
  have hl : ((l.take j).map (fun r => bnd (sh r x y))).length = j := by simp; omega
  rw [mvd, List.set_append_right _ _ (by omega), hl, Nat.sub_self, drop_at h, List.set_cons_zero, mvd, List.take_add_one, h]
  simp
theorem bnd_any_ok (r : Rc) : (bnd r).Ok := by
  rcases bnd_cases r with h | h
  · cases he : emp r
    · rw [bnd_full he, oft]
      split
      · exact rz_ok
      · rename_i hh
        rw [bnd_full he, oft, if_neg hh] at h
        simp [emp] at h
        omega
    · rw [bnd_emp he]; exact rz_ok
  · exact h.ok
theorem flt_shl (l : List Rc) (x y : Int) : flt (mvd l x y l.length) = shl l x y := by
  rw [mvd, List.take_length, List.drop_length, List.append_nil]
  rfl

end Go.Proofs.Ytlkodgmnhphfcaa

/- Regions within a grid; a rectangle that is a row of one: for region and canvas alike. -/
namespace Go.Proofs.Ytlkodgmnhphfcaa
open Go Go.RowKit

/-- A region whose edges are among p across and p down. -/
structure Gd (p : Nat) (l : List Rc) : Prop where
  reg : Reg l
  grid : ∃ X Y, Grid X Y l ∧ X.length ≤ p ∧ Y.length ≤ p
theorem Gd.len {p : Nat} {l : List Rc} (h : Gd p l) : l.length ≤ p * p := by
  obtain ⟨X, Y, g, hx, hy⟩ := h.grid
  exact Nat.le_trans (grid_len h.reg.bands g) (Nat.mul_le_mul hx hy)
theorem gd_both {p q : Nat} {f : Bool → Bool → Bool} {a b : List Rc} (ha : Gd p a) (hb : Gd q b) (hf : f false false = false) : Gd (p + q) (mk f a b) := by
  obtain ⟨X, Y, g, hx, hy⟩ := ha.grid
  obtain ⟨X', Y', g', hx', hy'⟩ := hb.grid
  refine ⟨(mk_all hf ha.reg.ck hb.reg.ck).1, X ++ X', Y ++ Y', grid_mk hf ha.reg.ck hb.reg.ck (g.mono (fun x h => by simp [h]) (fun x h => by simp [h])) (g'.mono (fun x h => by simp [h]) (fun x h => by simp [h])), by rw [List.length_append]; omega, by rw [List.length_append]; omega⟩
theorem mkp {f : Bool → Bool → Bool} (hf : f false false = false) {a b : List Rc} (ha : Reg a) (hb : Reg b) (x y : Int) : pt (mk f a b) x y = f (pt a x y) (pt b x y) := (mk_all hf ha.ck hb.ck).2.1 x y
theorem union_reg {a a' : Option Addr} {n c n' c' p q : Nat} {l m : List Rc} {w : World} (h : RdC w a n c l) (h' : RdC w a' n' c' m) (hl : Gd p l) (hm : Gd q m) (hn : p * p + q * q ≤ 4096) : Calls Try.prog 44 #[.slice a n c, .slice a' n' c'] w (Ret w (mk or l m)) := by
  rw [← unn_reg hl.reg hm.reg]
  exact union_any a a' n c n' c' l m w h h' (by have := hl.len; have := hm.len; have := h.len; have := h'.len; omega)

theorem rdc_lit (w : World) (r : Rc) (ok : r.Ok) : RdC (w.alloc (.cells #[.int .i64 r.x, .int .i64 r.y, .int .i64 r.w, .int .i64 r.h] 36)) (some ⟨w.heap.size, 0, none⟩) 1 1 [r] := by
  refine ⟨rfl, Nat.le_refl _, by decide, (fun h => by cases h), fun _ => ⟨w.heap.size, 0, rfl, by simp, fun j x hx => ?_⟩, fun x hx => ?_⟩
  · cases j with
    | zero =>
      simp only [List.getElem?_cons_zero, Option.some.injEq] at hx
      subst hx
      have := bx_new w r
      obtain ⟨h0, h1, h2, h3⟩ := this.all
      exact ⟨by simp, h0, h1, h2, h3⟩
    | succ j => simp at hx
  · simp only [List.mem_singleton] at hx
    rw [hx]
    exact ok

end Go.Proofs.Ytlkodgmnhphfcaa

/- The document's Has, in, Same, add; SameRects. -/
namespace Go.Proofs.Ytlkodgmnhphfcaa
open Go Go.RowKit

/-- The same rectangles. -/
def eqr : List Rc → List Rc → Bool
  | [], [] => true
  | x :: l, y :: m => rceq x y && eqr l m
  | _, _ => false
theorem eqr_cons (x y : Rc) (l m : List Rc) : eqr (x :: l) (y :: m) = (rceq x y && eqr l m) := rfl
theorem eqr_iff : ∀ {l m : List Rc}, eqr l m = true ↔ l = m
  | [], [] => by simp [eqr]
  | [], _ :: _ => by simp [eqr]
  | _ :: _, [] => by simp [eqr]
  | x :: l, y :: m => by rw [eqr, Bool.and_eq_true, rceq_iff, eqr_iff, List.cons.injEq]
theorem eqr_len {l m : List Rc} (h : l.length ≠ m.length) : eqr l m = false := by
  rw [← Bool.not_eq_true, eqr_iff]
  intro e
  exact h (by rw [e])
theorem eqr_same (l : List Rc) : eqr l l = true := eqr_iff.2 rfl

set_option maxRecDepth 100000 in
set_option maxHeartbeats 1000000 in
theorem rsame_any (a a' : Option Addr) (n c n' c' : Nat) (l m : List Rc) (w : World) (h : RdC w a n c l) (h' : RdC w a' n' c' m) :
    Calls Try.prog 23 #[.slice a n c, .slice a' n' c'] w fun e w' => e = .returned (.bool (eqr l m)) ∧ ∃ q, w' = w.drewN q := by
  have hl := h.len
  have hl' := h'.len
  have hn63 := h.small.1
  have hn63' := h'.small.1
  have hg := neqR_guard
  have hne := neqR
  by_cases hnn : n = n'
  · subst hnn
    have H := hid h
    have H' := hid h'
    have HL := hid hl
    have HL' := hid hl'
    clear h h' hl hl'
    go_enter Try.func23, Try.ntmps23
    go_wp2
    go_loopw [5] (fun i wr => ∃ j : Nat, i = .int .i64 j ∧ j ≤ n ∧ eqr (l.drop j) (m.drop j) = eqr l m ∧ ∃ q, wr = w.drewN q) (fun i _ => n - (numOf i).toNat)
    case atStart => exact ⟨0, rfl, by omega, rfl, 0, rfl⟩
    case round =>
      obtain ⟨j, rfl, hj, hq, q, rfl⟩ := hrel
      by_cases hgo : j < n
      · have e1 : decide ((j : Int) < n) = true := decide_eq_true (by omega)
        have e2 : (j : Int) < n := by omega
        obtain ⟨b, off, x, rfl, _, hx, _, hex⟩ := H.out.el hgo
        obtain ⟨b', off', y, rfl, _, hy, _, hey⟩ := H'.out.el hgo
        obtain ⟨_, c0, c1, c2, c3⟩ := hex
        obtain ⟨_, d0, d1, d2, d3⟩ := hey
        have HD : Hid (eqr l m = (rceq x y && eqr (l.drop (j + 1)) (m.drop (j + 1)))) := by
          rw [Hid, ← hq, drop_at hx, drop_at hy, eqr_cons]
        clear hx hy hq
        have hn0 := hne x y
        cases hs : rceq x y
        · rw [hs] at hn0
          have HE : Hid (eqr l m = false) := by rw [Hid, HD.out, hs]; rfl
          go_wp2
          go_quiet (fail)
          go_wp2
          go_ret
          rw [HE.out, World.drewN_drewN]
          exact ⟨rfl, _, rfl⟩
        · rw [hs] at hn0
          have HE : Hid (eqr (l.drop (j + 1)) (m.drop (j + 1)) = eqr l m) := by rw [Hid, HD.out, hs]; rfl
          go_wp2
          go_quiet (fail)
          go_wp2
          go_roundw
          case rel => exact ⟨j + 1, by go_num, by omega, HE.out, _, rfl⟩
          case measure => simp [numOf]; omega
      · have e1 : decide ((j : Int) < n) = false := decide_eq_false (by omega)
        have HE : Hid (eqr l m = true) := by
          rw [Hid, ← hq, List.drop_eq_nil_of_le (by rw [HL.out]; omega), List.drop_eq_nil_of_le (by rw [HL'.out]; omega)]
          rfl
        clear hq
        go_wp2
        go_ret
        rw [HE.out]
        exact ⟨rfl, _, rfl⟩
  · have HE : Hid (eqr l m = false) := eqr_len (by omega)
    have e1 : ((n : Int) == n') = false := by simp; omega
    clear h h' hl hl'
    go_enter Try.func23, Try.ntmps23
    go_wp2
    go_ret
    rw [HE.out]
    exact ⟨rfl, 0, rfl⟩

set_option maxRecDepth 100000 in
set_option maxHeartbeats 1000000 in
theorem samerects_any (a a' : Option Addr) (n c n' c' : Nat) (l m : List Rc) (w : World) (h : RdC w a n c l) (h' : RdC w a' n' c' m) :
    Calls Try.prog 8 #[.slice a n c, .slice a' n' c'] w fun e w' => e = .returned (.bool (eqr l m)) ∧ ∃ q, w' = w.drewN q := by
  have hl := h.len
  have hl' := h'.len
  have hn63 := h.small.1
  have hn63' := h'.small.1
  have hg := neqR_guard
  have hne := neqR
  by_cases hnn : n = n'
  · subst hnn
    have H := hid h
    have H' := hid h'
    have HL := hid hl
    have HL' := hid hl'
    clear h h' hl hl'
    go_enter Try.func8, Try.ntmps8
    go_wp2
    go_loopw [5] (fun i wr => ∃ j : Nat, i = .int .i64 j ∧ j ≤ n ∧ eqr (l.drop j) (m.drop j) = eqr l m ∧ ∃ q, wr = w.drewN q) (fun i _ => n - (numOf i).toNat)
    case atStart => exact ⟨0, rfl, by omega, rfl, 0, rfl⟩
    case round =>
      obtain ⟨j, rfl, hj, hq, q, rfl⟩ := hrel
      by_cases hgo : j < n
      · have e1 : decide ((j : Int) < n) = true := decide_eq_true (by omega)
        have e2 : (j : Int) < n := by omega
        obtain ⟨b, off, x, rfl, _, hx, _, hex⟩ := H.out.el hgo
        obtain ⟨b', off', y, rfl, _, hy, _, hey⟩ := H'.out.el hgo
        obtain ⟨_, c0, c1, c2, c3⟩ := hex
        obtain ⟨_, d0, d1, d2, d3⟩ := hey
        have HD : Hid (eqr l m = (rceq x y && eqr (l.drop (j + 1)) (m.drop (j + 1)))) := by
          rw [Hid, ← hq, drop_at hx, drop_at hy, eqr_cons]
        clear hx hy hq
        have hn0 := hne x y
        cases hs : rceq x y
        · rw [hs] at hn0
          have HE : Hid (eqr l m = false) := by rw [Hid, HD.out, hs]; rfl
          go_wp2
          go_quiet (fail)
          go_wp2
          go_ret
          rw [HE.out, World.drewN_drewN]
          exact ⟨rfl, _, rfl⟩
        · rw [hs] at hn0
          have HE : Hid (eqr (l.drop (j + 1)) (m.drop (j + 1)) = eqr l m) := by rw [Hid, HD.out, hs]; rfl
          go_wp2
          go_quiet (fail)
          go_wp2
          go_roundw
          case rel => exact ⟨j + 1, by go_num, by omega, HE.out, _, rfl⟩
          case measure => simp [numOf]; omega
      · have e1 : decide ((j : Int) < n) = false := decide_eq_false (by omega)
        have HE : Hid (eqr l m = true) := by
          rw [Hid, ← hq, List.drop_eq_nil_of_le (by rw [HL.out]; omega), List.drop_eq_nil_of_le (by rw [HL'.out]; omega)]
          rfl
        clear hq
        go_wp2
        go_ret
        rw [HE.out]
        exact ⟨rfl, _, rfl⟩
  · have HE : Hid (eqr l m = false) := eqr_len (by omega)
    have e1 : ((n : Int) == n') = false := by simp; omega
    clear h h' hl hl'
    go_enter Try.func8, Try.ntmps8
    go_wp2
    go_ret
    rw [HE.out]
    exact ⟨rfl, 0, rfl⟩

set_option maxRecDepth 100000 in
set_option maxHeartbeats 1000000 in
theorem rpt_any (a : Option Addr) (n c : Nat) (l : List Rc) (x y : Int) (hx : -9223372036854775808 ≤ x ∧ x ≤ 9223372036854775807) (hy : -9223372036854775808 ≤ y ∧ y ≤ 9223372036854775807) (w : World) (h : RdC w a n c l) :
    Calls Try.prog 59 #[.slice a n c, .int .i64 x, .int .i64 y] w fun e w' => e = .returned (.bool (pt l x y)) ∧ Below w.heap.size w w' := by
  have HL := hid h.len
  have hs := h.small
  have H := hid h
  clear h
  go_enter Try.func59, Try.ntmps59
  go_wp2
  go_loopw [7] (fun i wr => ∃ j : Nat, i = .int .i64 j ∧ j ≤ n ∧ pt (l.drop j) x y = pt l x y ∧ RowKit.Below w.heap.size w wr) (fun i _ => n - (numOf i).toNat)
  case atStart => exact ⟨0, rfl, by omega, rfl, Below.refl _ _⟩
  case round =>
    obtain ⟨j, rfl, hj, hq, hb⟩ := hrel
    have HB := hid hb
    clear hb
    by_cases hgo : j < n
    · have e1 : decide ((j : Int) < n) = true := decide_eq_true (by omega)
      have e2 : (j : Int) < n := by omega
      obtain ⟨b, off, r, rfl, _, hr, ok, he⟩ := (H.out.on HB.out).el hgo
      obtain ⟨_, c0, c1, c2, c3⟩ := he
      have CH := hid (fun u => rhas_any r ok x y hx hy u)
      have HD : Hid (pt l x y = (has r x y || pt (l.drop (j + 1)) x y)) := by rw [Hid, ← hq, drop_at hr, pt_cons]
      clear hr ok hq
      cases hh : has r x y
      · rw [hh] at CH
        have HE : Hid (pt (l.drop (j + 1)) x y = pt l x y) := by rw [Hid, HD.out, hh]; rfl
        go_wp2_with fail
        refine (CH.out _).mono ?_
        rintro e w2 ⟨rfl, hb2⟩
        have HB2 := hid (Below.on HB.out hb2)
        clear hb2
        go_wp2
        go_roundw
        case rel => exact ⟨j + 1, by go_num, by omega, HE.out, HB2.out⟩
        case measure => simp [numOf]; omega
      · rw [hh] at CH
        have HE : Hid (pt l x y = true) := by rw [Hid, HD.out, hh]; rfl
        go_wp2_with fail
        refine (CH.out _).mono ?_
        rintro e w2 ⟨rfl, hb2⟩
        have HB2 := hid (Below.on HB.out hb2)
        clear hb2
        go_wp2
        go_ret
        rw [HE.out]
        exact ⟨rfl, HB2.out⟩
    · have e1 : decide ((j : Int) < n) = false := decide_eq_false (by omega)
      have HE : Hid (pt l x y = false) := by rw [Hid, ← hq, List.drop_eq_nil_of_le (by rw [HL.out]; omega)]; rfl
      clear hq
      go_wp2
      go_ret
      rw [HE.out]
      exact ⟨rfl, HB.out⟩

/-- The document's ways: 0, 1, 2. -/
def fH (how : Int) : Bool → Bool → Bool := if how = 1 then sub else if how = 2 then and else or
theorem fH_ff (how : Int) : fH how false false = false := by
  unfold fH
  split
  · rfl
  · split <;> rfl

set_option maxRecDepth 100000 in
set_option maxHeartbeats 1000000 in
theorem rin_any (a a' : Option Addr) (n c n' c' : Nat) (l m : List Rc) (x y how : Int) (hx : -9223372036854775808 ≤ x ∧ x ≤ 9223372036854775807) (hy : -9223372036854775808 ≤ y ∧ y ≤ 9223372036854775807) (w : World) (h : RdC w a n c l) (h' : RdC w a' n' c' m) :
    Calls Try.prog 52 #[.slice a n c, .slice a' n' c', .int .i64 x, .int .i64 y, .int .i64 how] w fun e w' => e = .returned (.bool (fH how (pt l x y) (pt m x y))) ∧ Below w.heap.size w w' := by
  have H := hid h
  have H' := hid h'
  have C1 := hid (fun u hu => rpt_any a n c l x y hx hy u hu)
  have C2 := hid (fun u hu => rpt_any a' n' c' m x y hx hy u hu)
  clear h h'
  generalize pt l x y = p at C1 ⊢
  generalize pt m x y = q at C2 ⊢
  go_enter Try.func52, Try.ntmps52
  go_wp2_with fail
  refine (C1.out _ H.out).mono ?_
  rintro e w1 ⟨rfl, hb1⟩
  go_wp2_with fail
  refine (C2.out _ (H'.out.on hb1)).mono ?_
  rintro e w2 ⟨rfl, hb2⟩
  have HB := hid (Below.on hb1 hb2)
  clear hb1 hb2 C1 C2
  cases h1 : (how == 1)
  · cases h2 : (how == 2)
    · have HE : Hid (fH how = or) := by rw [Hid, fH, if_neg (by simpa using h1), if_neg (by simpa using h2)]
      cases p <;> cases q
      all_goals
        go_wp2
        go_ret
        rw [HE.out]
        exact ⟨rfl, HB.out⟩
    · have HE : Hid (fH how = and) := by rw [Hid, fH, if_neg (by simpa using h1), if_pos (by simpa using h2)]
      cases p <;> cases q
      all_goals
        go_wp2
        go_ret
        rw [HE.out]
        exact ⟨rfl, HB.out⟩
  · have HE : Hid (fH how = sub) := by rw [Hid, fH, if_pos (by simpa using h1)]
    cases p <;> cases q
    all_goals
      go_wp2
      go_ret
      rw [HE.out]
      exact ⟨rfl, HB.out⟩

/-- What is still to come of add. -/
def rstA (v : Int) (d : Bool) (l : List Int) : List Int := if d = true then l else addE l v
theorem rstA_lt {v k : Int} {t : List Int} (h : v < k) : rstA v false (k :: t) = v :: k :: t := by rw [rstA, if_neg (by decide), addE, if_pos h]
theorem rstA_eq {v k : Int} {t : List Int} (h : v = k) : rstA v false (k :: t) = k :: t := by rw [rstA, if_neg (by decide), addE, if_neg (by omega), if_pos h]
theorem rstA_gt {v k : Int} {t : List Int} (h : k < v) : rstA v false (k :: t) = k :: rstA v false t := by rw [rstA, if_neg (by decide), addE, if_neg (by omega), if_neg (by omega), rstA, if_neg (by decide)]

set_option maxRecDepth 100000 in
set_option maxHeartbeats 1000000 in
theorem radd_any (a : Option Addr) (n c : Nat) (l : List Int) (v : Int) (w : World) (h : RdJ w a n c l) (hn : n ≤ 1000000) :
    Calls Try.prog 51 #[.slice a n c, .int .i64 v] w fun e w' => ∃ x, e = .returned x ∧ OwJ w w' x (addE l v) := by
  have HL := hid h.len
  have hs := h.small
  have H := hid h
  obtain ⟨i0, hi, hz0, hz1, hz2⟩ := info3 infoI
  clear h
  go_enter Try.func51, Try.ntmps51
  go_wp2
  go_loopw [5, 6, 7] (fun s5 s6 s7 wr => ∃ (j : Nat) (d : Bool) (M : List Int), s7 = .int .i64 j ∧ s6 = .bool d ∧ j ≤ n ∧ M.length ≤ j + d.toNat ∧ M ++ rstA v d (l.drop j) = addE l v ∧ OwJ w wr s5 M) (fun _ _ s7 _ => n - (numOf s7).toNat)
  case atStart => exact ⟨0, false, [], rfl, rfl, by omega, by simp, rfl, World.ownsRow_nil _ _ _ _, Below.refl _ _⟩
  case round =>
    obtain ⟨j, d, M, rfl, rfl, hj, hM, hq, hO⟩ := hrel
    have HQ := hid hq
    have HO := hid hO
    have hd1 : d.toNat ≤ 1 := Bool.toNat_le d
    clear hq hO
    by_cases hgo : j < n
    · have e1 : decide ((j : Int) < n) = true := decide_eq_true (by omega)
      have e2 : (j : Int) < n := by omega
      obtain ⟨b, off, k, rfl, hbl, hk, c0⟩ := (H.out.on HO.out.bel).el hgo
      have HD := hid (drop_at hk)
      clear hk
      have HC : Hid (∀ u, RowKit.Below w.heap.size w u → u.cell? ⟨b, off + j, none⟩ = some (.int .i64 k)) := fun u hu => by
        obtain ⟨b', off', k', e, _, hk', c'⟩ := (H.out.on hu).el hgo
        cases e
        have := HD.out
        rw [drop_at hk', List.cons.injEq] at this
        rw [← this.1]
        exact c'
      cases d
      · rcases Int.lt_trichotomy v k with hvk | hvk | hvk
        · have e3 : decide (v ≤ k) = true := decide_eq_true (by omega)
          have e4 : decide (v < k) = true := decide_eq_true hvk
          have HN : Hid ((M ++ [v]) ++ [k] ++ rstA v true (l.drop (j + 1)) = addE l v) := by
            have := HQ.out
            rw [HD.out, rstA_lt hvk] at this
            rw [Hid, ← this]
            simp [rstA]
          have HOW := hid (HO.out.own.alloc (.cells #[.int .i64 v] 3))
          have HSR := hid (src1 wr v)
          have HSZ := (HO.out.on (below_new _ (.cells #[.int .i64 v] 3))).size
          go_upto_region 10 with (at_builtin; refine wpList_append_own_src _ rfl (.tmp 30) (.tmp 32) 60 60 rfl w.heap.size 3 i0 (.int .i64 0) 1 8 Try.underlying60 hi hz0 hz1 hz2 rfl _ _ _ rfl HOW.out _ _ _ rfl HSR.out (by simp only [maxLen]; omega) (fitsI (by omega)) HSZ ?_; intro v9 w9 o9 g9; have H3 := hid (HO.out.grown (m := [v]) o9 g9); clear o9 g9 HOW HSR HSZ)
          have c1 := HC.out _ H3.out.bel
          have hM2 : (M ++ [v]).length ≤ j + 2 := by rw [List.length_append, List.length_singleton]; omega
          have HOW := hid (H3.out.own.alloc (.cells #[.int .i64 k] 3))
          have HSR := hid (src1 w9 k)
          have HSZ := (H3.out.on (below_new _ (.cells #[.int .i64 k] 3))).size
          clear HO HC c0
          go_wp2_with (at_builtin; refine wpList_append_own_src _ rfl (.tmp 34) (.tmp 39) 60 60 rfl w.heap.size 3 i0 (.int .i64 0) 1 8 Try.underlying60 hi hz0 hz1 hz2 rfl _ _ _ rfl HOW.out _ _ _ rfl HSR.out (by simp only [maxLen]; omega) (fitsI (by omega)) HSZ ?_; intro v9 w9 o9 g9; have H4 := hid (H3.out.grown (m := [k]) o9 g9); clear o9 g9 HOW HSR HSZ)
          go_wp2
          go_roundw
          case rel => exact ⟨j + 1, true, M ++ [v] ++ [k], by go_num, rfl, by omega, by simp only [List.length_append, List.length_singleton, Bool.toNat_true, Bool.toNat_false] at hM ⊢; omega, HN.out, H4.out⟩
          case measure => simp [numOf]; omega
        · have e3 : decide (v ≤ k) = true := decide_eq_true (by omega)
          have e4 : decide (v < k) = false := decide_eq_false (by omega)
          have HN : Hid (M ++ [k] ++ rstA v true (l.drop (j + 1)) = addE l v) := by
            have := HQ.out
            rw [HD.out, rstA_eq hvk] at this
            rw [Hid, ← this]
            simp [rstA]
          clear HC hvk
          have HOW := hid (HO.out.own.alloc (.cells #[.int .i64 k] 3))
          have HSR := hid (src1 wr k)
          have HSZ := (HO.out.on (below_new _ (.cells #[.int .i64 k] 3))).size
          go_wp2_with (at_builtin; refine wpList_append_own_src _ rfl (.tmp 34) (.tmp 39) 60 60 rfl w.heap.size 3 i0 (.int .i64 0) 1 8 Try.underlying60 hi hz0 hz1 hz2 rfl _ _ _ rfl HOW.out _ _ _ rfl HSR.out (by simp only [maxLen]; omega) (fitsI (by omega)) HSZ ?_; intro v9 w9 o9 g9; have H4 := hid (HO.out.grown (m := [k]) o9 g9); clear o9 g9 HOW HSR HSZ)
          go_wp2
          go_roundw
          case rel => exact ⟨j + 1, true, M ++ [k], by go_num, rfl, by omega, by simp only [List.length_append, List.length_singleton, Bool.toNat_true, Bool.toNat_false] at hM ⊢; omega, HN.out, H4.out⟩
          case measure => simp [numOf]; omega
        · have e3 : decide (v ≤ k) = false := decide_eq_false (by omega)
          have HN : Hid (M ++ [k] ++ rstA v false (l.drop (j + 1)) = addE l v) := by
            have := HQ.out
            rw [HD.out, rstA_gt hvk] at this
            rw [Hid, ← this]
            simp
          clear HC
          have HOW := hid (HO.out.own.alloc (.cells #[.int .i64 k] 3))
          have HSR := hid (src1 wr k)
          have HSZ := (HO.out.on (below_new _ (.cells #[.int .i64 k] 3))).size
          go_wp2_with (at_builtin; refine wpList_append_own_src _ rfl (.tmp 34) (.tmp 39) 60 60 rfl w.heap.size 3 i0 (.int .i64 0) 1 8 Try.underlying60 hi hz0 hz1 hz2 rfl _ _ _ rfl HOW.out _ _ _ rfl HSR.out (by simp only [maxLen]; omega) (fitsI (by omega)) HSZ ?_; intro v9 w9 o9 g9; have H4 := hid (HO.out.grown (m := [k]) o9 g9); clear o9 g9 HOW HSR HSZ)
          go_wp2
          go_roundw
          case rel => exact ⟨j + 1, false, M ++ [k], by go_num, rfl, by omega, by simp only [List.length_append, List.length_singleton, Bool.toNat_false] at hM ⊢; omega, HN.out, H4.out⟩
          case measure => simp [numOf]; omega
      · have HN : Hid (M ++ [k] ++ rstA v true (l.drop (j + 1)) = addE l v) := by
          have := HQ.out
          rw [HD.out] at this
          rw [Hid, ← this]
          simp [rstA]
        clear HC
        have HOW := hid (HO.out.own.alloc (.cells #[.int .i64 k] 3))
        have HSR := hid (src1 wr k)
        have HSZ := (HO.out.on (below_new _ (.cells #[.int .i64 k] 3))).size
        go_wp2_with (at_builtin; refine wpList_append_own_src _ rfl (.tmp 34) (.tmp 39) 60 60 rfl w.heap.size 3 i0 (.int .i64 0) 1 8 Try.underlying60 hi hz0 hz1 hz2 rfl _ _ _ rfl HOW.out _ _ _ rfl HSR.out (by simp only [maxLen]; omega) (fitsI (by omega)) HSZ ?_; intro v9 w9 o9 g9; have H4 := hid (HO.out.grown (m := [k]) o9 g9); clear o9 g9 HOW HSR HSZ)
        go_wp2
        go_roundw
        case rel => exact ⟨j + 1, true, M ++ [k], by go_num, rfl, by omega, by simp only [List.length_append, List.length_singleton, Bool.toNat_true] at hM ⊢; omega, HN.out, H4.out⟩
        case measure => simp [numOf]; omega
    · have e1 : decide ((j : Int) < n) = false := decide_eq_false (by omega)
      cases d
      · have HN : Hid (M ++ [v] = addE l v) := by
          have := HQ.out
          rw [List.drop_eq_nil_of_le (by rw [HL.out]; omega)] at this
          exact this
        have HOW := hid (HO.out.own.alloc (.cells #[.int .i64 v] 3))
        have HSR := hid (src1 wr v)
        have HSZ := (HO.out.on (below_new _ (.cells #[.int .i64 v] 3))).size
        go_wp2_with (at_builtin; refine wpList_append_own_src _ rfl (.tmp 43) (.tmp 45) 60 60 rfl w.heap.size 3 i0 (.int .i64 0) 1 8 Try.underlying60 hi hz0 hz1 hz2 rfl _ _ _ rfl HOW.out _ _ _ rfl HSR.out (by simp only [maxLen]; omega) (fitsI (by omega)) HSZ ?_; intro v9 w9 o9 g9; have H4 := hid (HO.out.grown (m := [v]) o9 g9); clear o9 g9 HOW HSR HSZ)
        go_wp2
        go_ret
        rw [← HN.out]
        exact ⟨_, rfl, H4.out⟩
      · have HN : Hid (M = addE l v) := by
          have := HQ.out
          rw [List.drop_eq_nil_of_le (by rw [HL.out]; omega)] at this
          rw [Hid, ← this]
          simp [rstA]
        go_wp2
        go_ret
        rw [← HN.out]
        exact ⟨_, rfl, HO.out⟩
end Go.Proofs.Ytlkodgmnhphfcaa
