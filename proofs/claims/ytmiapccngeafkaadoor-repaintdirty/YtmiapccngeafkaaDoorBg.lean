/- Slices of structs of m numbers, read and of a call's own; children put and found; what a surface has. No program. -/
import Derived.Test.YtmiapccngeafkaaDoorBa
import Derived.Test.YtmiapccngeafkaaDoorBc
import Derived.Test.YtmiapccngeafkaaDoorBb
import Derived.Laws.OwnMore
import Derived.Deep.DeepCutAuto
import Derived.Deep.CutRange
import Derived.Laws.Rows
import Derived.Lib.Builder
import Derived.Shelf.Abstract
import Derived.Test.YtmiapccngeafkaaDoorBf
import Derived.Deep.RegionHeldLaw
import Derived.Test.YtmiapccngeafkaaDoorBe
namespace Go.Proofs.YtmiapccngeafkaaDoor
open Go Go.RowKit

/-- A slice whose first n elements are structs of m numbers, l. -/
structure RdM (m : Nat) (w : World) (a : Option Addr) (n c : Nat) (l : List (List Int)) : Prop where
  len : l.length = n
  le : n ≤ c
  max : c ≤ maxLen
  hnil : a = none → c = 0
  pl : 0 < n → ∃ b off, a = some ⟨b, off, none⟩ ∧ b < w.heap.size ∧ ∀ j y, l[j]? = some y → ∀ i z, y[i]? = some z → w.cell? ⟨b, off + (j * m + i), none⟩ = some (.int .i64 z)
  size : ∀ y ∈ l, y.length = m

theorem RdM.on {m : Nat} {w u : World} {a : Option Addr} {n c : Nat} {l : List (List Int)} (h : RdM m w a n c l) (hb : Below w.heap.size w u) : RdM m u a n c l :=
  ⟨h.len, h.le, h.max, h.hnil, fun hn => by
    obtain ⟨b, off, e, h1, h2⟩ := h.pl hn
    exact ⟨b, off, e, Nat.lt_of_lt_of_le h1 hb.size, fun j y hy i z hz => by rw [hb.cell h1]; exact h2 j y hy i z hz⟩, h.size⟩
theorem RdM.kp {m : Nat} {w u : World} {a : Option Addr} {n c : Nat} {l : List (List Int)} (h : RdM m w a n c l) {X : List Nat} (hb : Kp X w u) (hX : ∀ x, a = some x → 0 < n → x.block ∉ X) : RdM m u a n c l :=
  ⟨h.len, h.le, h.max, h.hnil, fun hn => by
    obtain ⟨b, off, e, h1, h2⟩ := h.pl hn
    exact ⟨b, off, e, Nat.lt_of_lt_of_le h1 hb.size, fun j y hy i z hz => hb.cell (h2 j y hy i z hz) (hX ⟨b, off, none⟩ e hn)⟩, h.size⟩
theorem RdM.nil (m : Nat) (w : World) : RdM m w none 0 0 [] := ⟨rfl, Nat.le_refl _, Nat.zero_le _, fun _ => rfl, fun h => absurd h (by omega), by simp⟩
theorem RdM.small {m : Nat} {w : World} {a : Option Addr} {n c : Nat} {l : List (List Int)} (h : RdM m w a n c l) : n ≤ 9223372036854775807 ∧ c ≤ 9223372036854775807 := by
  have h1 := h.le
  have h2 := h.max
  simp only [maxLen] at h2
  omega
theorem RdM.drewN {m : Nat} {w : World} {a : Option Addr} {n c : Nat} {l : List (List Int)} (h : RdM m w a n c l) (q : Nat) : RdM m (w.drewN q) a n c l := h.on (below_drewN (Below.refl _ _) q)
theorem RdM.at_ {m : Nat} {w : World} {a : Option Addr} {n c : Nat} {l : List (List Int)} (h : RdM m w a n c l) {j : Nat} (hj : j < n) : ∃ b off y, a = some ⟨b, off, none⟩ ∧ b < w.heap.size ∧ l[j]? = some y ∧ y.length = m ∧ ∀ i z, y[i]? = some z → w.cell? ⟨b, off + (j * m + i), none⟩ = some (.int .i64 z) := by
  have hl := h.len
  obtain ⟨b, off, e, h1, h2⟩ := h.pl (by omega)
  have hr : l[j]? = some l[j] := List.getElem?_eq_getElem (by omega)
  exact ⟨b, off, _, e, h1, hr, h.size _ (List.mem_of_getElem? hr), h2 j _ hr⟩
theorem RdM.el1 {w : World} {a : Option Addr} {n c : Nat} {l : List (List Int)} (h : RdM 1 w a n c l) {j : Nat} (hj : j < n) : ∃ b off z0, a = some ⟨b, off, none⟩ ∧ b < w.heap.size ∧ l[j]? = some [z0] ∧ w.cell? ⟨b, off + j, none⟩ = some (.int .i64 z0) := by
  obtain ⟨b, off, y, e, h1, h2, h3, h4⟩ := h.at_ hj
  match y, h3 with
  | [z0], _ => exact ⟨b, off, z0, e, h1, h2, by simpa using h4 0 z0 rfl⟩
theorem RdM.el3 {w : World} {a : Option Addr} {n c : Nat} {l : List (List Int)} (h : RdM 3 w a n c l) {j : Nat} (hj : j < n) : ∃ b off z0 z1 z2, a = some ⟨b, off, none⟩ ∧ b < w.heap.size ∧ l[j]? = some [z0, z1, z2] ∧ w.cell? ⟨b, off + j * 3, none⟩ = some (.int .i64 z0) ∧ w.cell? ⟨b, off + j * 3 + 1, none⟩ = some (.int .i64 z1) ∧ w.cell? ⟨b, off + j * 3 + 2, none⟩ = some (.int .i64 z2) := by
  obtain ⟨b, off, y, e, h1, h2, h3, h4⟩ := h.at_ hj
  match y, h3 with
  | [z0, z1, z2], _ => exact ⟨b, off, z0, z1, z2, e, h1, h2, by simpa using h4 0 z0 rfl, by simpa [Nat.add_assoc] using h4 1 z1 rfl, by simpa [Nat.add_assoc] using h4 2 z2 rfl⟩
theorem RdM.el4 {w : World} {a : Option Addr} {n c : Nat} {l : List (List Int)} (h : RdM 4 w a n c l) {j : Nat} (hj : j < n) : ∃ b off z0 z1 z2 z3, a = some ⟨b, off, none⟩ ∧ b < w.heap.size ∧ l[j]? = some [z0, z1, z2, z3] ∧ w.cell? ⟨b, off + j * 4, none⟩ = some (.int .i64 z0) ∧ w.cell? ⟨b, off + j * 4 + 1, none⟩ = some (.int .i64 z1) ∧ w.cell? ⟨b, off + j * 4 + 2, none⟩ = some (.int .i64 z2) ∧ w.cell? ⟨b, off + j * 4 + 3, none⟩ = some (.int .i64 z3) := by
  obtain ⟨b, off, y, e, h1, h2, h3, h4⟩ := h.at_ hj
  match y, h3 with
  | [z0, z1, z2, z3], _ => exact ⟨b, off, z0, z1, z2, z3, e, h1, h2, by simpa using h4 0 z0 rfl, by simpa [Nat.add_assoc] using h4 1 z1 rfl, by simpa [Nat.add_assoc] using h4 2 z2 rfl, by simpa [Nat.add_assoc] using h4 3 z3 rfl⟩

theorem rdm_of_rdn {m : Nat} (hm : 0 < m) {w : World} {a : Option Addr} {n c : Nat} {l : List (List Int)} (h : RdN m w a n c l) : RdM m w a n c l := by
  refine ⟨h.len, h.le, h.max, h.hnil, fun hn => ?_, h.size⟩
  obtain ⟨b, off, y, e, h1, _⟩ := h.at_ hm 0 hn
  refine ⟨b, off, e, h1, fun j y hy i z hz => ?_⟩
  have := h.cells _ e j y hy i z hz
  rwa [Go.WideShapes.add_plain] at this

/-- Such structs' cells. -/
def mcs (l : List (List Int)) : List Value := l.flatMap fun y => y.map (Value.int .i64)
theorem mcs_nil : mcs [] = [] := rfl
theorem mcs_cons (y : List Int) (l : List (List Int)) : mcs (y :: l) = y.map (Value.int .i64) ++ mcs l := rfl
theorem mcs_append (a b : List (List Int)) : mcs (a ++ b) = mcs a ++ mcs b := by simp [mcs]
theorem mcs_length {m : Nat} {l : List (List Int)} (h : ∀ y ∈ l, y.length = m) : (mcs l).length = l.length * m := by
  induction l with
  | nil => simp [mcs]
  | cons y l ih =>
    rw [mcs_cons, List.length_append, List.length_map, ih fun z hz => h z (by simp [hz]), h y (by simp), List.length_cons, Nat.add_mul, Nat.one_mul, Nat.add_comm]
theorem mcs_one (l : List (List Int)) : ∀ u ∈ mcs l, u.oneCell' = true := by
  intro u hu
  obtain ⟨x, _, hx⟩ := List.mem_flatMap.1 hu
  obtain ⟨z, _, rfl⟩ := List.mem_map.1 hx
  rfl
theorem mcs_at {m : Nat} {l : List (List Int)} (h : ∀ y ∈ l, y.length = m) {j : Nat} {y : List Int} (hj : l[j]? = some y) {i : Nat} {z : Int} (hi : y[i]? = some z) : (mcs l)[j * m + i]? = some (.int .i64 z) := by
  induction l generalizing j with
  | nil => simp at hj
  | cons x l ih =>
    have hx := h x (by simp)
    rw [mcs_cons]
    cases j with
    | zero =>
      simp only [List.getElem?_cons_zero, Option.some.injEq] at hj
      subst hj
      have : i < x.length := (List.getElem?_eq_some_iff.1 hi).1
      rw [Nat.zero_mul, Nat.zero_add, List.getElem?_append_left (by simpa using this), List.getElem?_map, hi]
      rfl
    | succ j =>
      rw [List.getElem?_append_right (by rw [List.length_map, hx, Nat.succ_mul]; omega), List.length_map, hx, show (j + 1) * m + i - m = j * m + i by rw [Nat.succ_mul]; omega]
      exact ih (fun z hz => h z (by simp [hz])) (by simpa using hj)
theorem mcs_inv {m : Nat} {l : List (List Int)} (h : ∀ y ∈ l, y.length = m) {k : Nat} {u : Value} (hu : (mcs l)[k]? = some u) : ∃ j i y z, k = j * m + i ∧ l[j]? = some y ∧ y[i]? = some z ∧ u = .int .i64 z := by
  have hk : k < l.length * m := by
    rw [← mcs_length h]
    exact (List.getElem?_eq_some_iff.1 hu).1
  have hm : 0 < m := by
    rcases Nat.eq_zero_or_pos m with h0 | h0
    · rw [h0] at hk; omega
    · exact h0
  have hj : k / m < l.length := by rw [Nat.div_lt_iff_lt_mul hm]; exact hk
  have e1 : l[k / m]? = some l[k / m] := List.getElem?_eq_getElem hj
  have hl := h _ (List.mem_of_getElem? e1)
  have e2 : l[k / m][k % m]? = some (l[k / m][k % m]'(by rw [hl]; exact Nat.mod_lt _ hm)) := List.getElem?_eq_getElem _
  have e3 : k = k / m * m + k % m := by rw [Nat.mul_comm]; exact (Nat.div_add_mod k m).symm
  refine ⟨k / m, k % m, _, _, e3, e1, e2, ?_⟩
  have := mcs_at h e1 e2
  rw [← e3, hu] at this
  simpa using this

/-- What is appended by 'append(x, l...)'. -/
theorem RdM.src {P : Program} {m : Nat} {w : World} {a : Option Addr} {n c : Nat} {l : List (List Int)} (h : RdM m w a n c l) {t e : TypeId} (ht : P.underlying t = some (.slice e)) : Src P m t (.slice a n c) n (mcs l) w := by
  have h3 := h.len
  cases a with
  | none =>
    have h1 := h.hnil rfl
    have h2 := h.le
    obtain rfl : n = 0 := by omega
    obtain rfl : l = [] := List.eq_nil_of_length_eq_zero h3
    exact Src.ofNil w ht c
  | some x =>
    refine Src.ofSlice w ht x n c (mcs l) (by rw [mcs_length h.size, h3]) (fun j u hu => ?_) (mcs_one l)
    rcases Nat.eq_zero_or_pos n with h0 | h0
    · obtain rfl : l = [] := List.eq_nil_of_length_eq_zero (by omega)
      simp [mcs] at hu
    · obtain ⟨b, off, e1, _, h2⟩ := h.pl h0
      cases e1
      rw [Go.WideShapes.add_plain]
      obtain ⟨p, q, y, z, rfl, hp, hq, rfl⟩ := mcs_inv h.size hu
      exact h2 p y hp q z hq

/-- A row of the call's own: m cells an element, of the type e; the call began in w. -/
structure OwM (m e : Nat) (w u : World) (v : Value) (l : List (List Int)) : Prop where
  own : u.ownsRow w.heap.size e m v l.length (mcs l)
  bel : Below w.heap.size w u
  size : ∀ y ∈ l, y.length = m
theorem OwM.on {m e : Nat} {w u u' : World} {v : Value} {l : List (List Int)} (h : OwM m e w u v l) (hb : Below u.heap.size u u') : OwM m e w u' v l := ⟨ownsRow_below h.own hb, Below.on h.bel hb, h.size⟩
theorem OwM.base {m e : Nat} {w w0 u : World} {v : Value} {l : List (List Int)} (h : OwM m e w u v l) (hb : Below w0.heap.size w0 w) : OwM m e w0 u v l := ⟨ownsRow_low h.own hb.size, Below.on hb h.bel, h.size⟩
theorem OwM.nil (m e : Nat) (w : World) : OwM m e w w (.slice none 0 0) [] := ⟨World.ownsRow_nil _ _ _ _, Below.refl _ _, by simp⟩
theorem OwM.grown {m e : Nat} {w u u' : World} {v v' : Value} {l k : List (List Int)} (h : OwM m e w u v l) (hk : ∀ y ∈ k, y.length = m) (o2 : u'.ownsRow w.heap.size e m v' (l.length + k.length) (mcs l ++ mcs k)) (g : u.grownBy u' v.ownBlock) : OwM m e w u' v' (l ++ k) :=
  ⟨by rw [List.length_append, mcs_append]; exact o2, h.bel.grown g h.bel.size (fun k hk => (h.own.lt k hk).1), fun y hy => by
    rcases List.mem_append.1 hy with hy | hy
    · exact h.size y hy
    · exact hk y hy⟩
theorem OwM.rd {m e : Nat} {w u : World} {v : Value} {l : List (List Int)} (h : OwM m e w u v l) : ∃ a c, v = .slice a l.length c ∧ RdM m u a l.length c l ∧ ∀ x, a = some x → w.heap.size ≤ x.block ∧ x.block < u.heap.size := by
  rcases h.own.2 with ⟨rfl, h0⟩ | ⟨g, cap, cur, rfl, hb, hg, hn, hm, _, _⟩
  · have hl := List.eq_nil_of_length_eq_zero h0
    subst hl
    exact ⟨none, 0, rfl, RdM.nil m u, fun x hx => by cases hx⟩
  · refine ⟨some ⟨g, 0, none⟩, cap, rfl, ⟨rfl, hn, hm, (fun h => by cases h), fun _ => ⟨g, 0, rfl, (h.own.lt g rfl).2, fun j y hy i z hz => ?_⟩, h.size⟩, fun x hx => ?_⟩
    · have hlt : j * m + i < l.length * m := by
        rw [← mcs_length h.size]
        exact (List.getElem?_eq_some_iff.1 (mcs_at h.size hy hz)).1
      rw [Nat.zero_add, h.own.cellAt _ hlt]
      exact mcs_at h.size hy hz
    · cases hx
      exact ⟨hb, (Array.getElem?_eq_some_iff.1 hg).1⟩

/-- A child's ID. -/
def hd (y : List Int) : Int := y.getD 0 0
theorem hd3 (a b c : Int) : hd [a, b, c] = a := rfl
/-- Where the first one of an ID stands. -/
def ixf (k : Int) : List (List Int) → Option Nat
  | [] => none
  | x :: l => if hd x = k then some 0 else (ixf k l).map (· + 1)
def ixI (k : Int) (l : List (List Int)) : Int := match ixf k l with
  | some i => i
  | none => -1
/-- A child put. -/
def put1 : List (List Int) → List Int → List (List Int)
  | [], c => [c]
  | x :: l, c => if hd x = hd c then c :: l else x :: put1 l c
def puts (l m : List (List Int)) : List (List Int) := m.foldl put1 l
/-- A child found. -/
def fnd (k : Int) : List (List Int) → Option (List Int)
  | [] => none
  | x :: l => if hd x = k then some x else fnd k l

theorem drop_at' {α : Type} {l : List α} {j : Nat} {x : α} (h : l[j]? = some x) : l.drop j = x :: l.drop (j + 1) := by
  obtain ⟨hj, rfl⟩ := List.getElem?_eq_some_iff.1 h
  exact List.drop_eq_getElem_cons hj
theorem ixf_drop {k : Int} {l : List (List Int)} : ∀ {j : Nat}, (∀ i y, i < j → l[i]? = some y → hd y ≠ k) → ixf k l = (ixf k (l.drop j)).map (· + j)
  | 0, _ => by simp
  | j + 1, h => by
    rw [ixf_drop (j := j) fun i y hi hy => h i y (by omega) hy]
    cases hd' : l[j]? with
    | none =>
      have : l.length ≤ j := List.getElem?_eq_none_iff.1 hd'
      rw [List.drop_eq_nil_of_le this, List.drop_eq_nil_of_le (by omega)]
      rfl
    | some y =>
      rw [drop_at' hd', ixf, if_neg (h j y (by omega) hd')]
      cases ixf k (l.drop (j + 1)) with
      | none => rfl
      | some i => simp; omega
theorem ixf_none {k : Int} : ∀ {l : List (List Int)}, ixf k l = none → (∀ y ∈ l, hd y ≠ k) ∧ fnd k l = none
  | [], _ => ⟨by simp, rfl⟩
  | x :: l, h => by
    rw [ixf] at h
    split at h
    · cases h
    · rename_i hx
      obtain ⟨h1, h2⟩ := ixf_none (l := l) (by simpa using h)
      refine ⟨fun y hy => ?_, by rw [fnd, if_neg hx, h2]⟩
      rcases List.mem_cons.1 hy with rfl | hy
      · exact hx
      · exact h1 y hy
theorem ixf_some {k : Int} : ∀ {l : List (List Int)} {i : Nat}, ixf k l = some i → i < l.length ∧ fnd k l = l[i]? ∧ ∀ c, hd c = k → put1 l c = l.set i c
  | [], _, h => by cases h
  | x :: l, i, h => by
    rw [ixf] at h
    split at h
    · rename_i hx
      cases h
      refine ⟨by simp, by rw [fnd, if_pos hx]; rfl, fun c hc => ?_⟩
      rw [put1, if_pos (by rw [hx, hc])]
      rfl
    · rename_i hx
      obtain ⟨m, hm, rfl⟩ := Option.map_eq_some_iff.1 h
      obtain ⟨h1, h2, h3⟩ := ixf_some hm
      refine ⟨by simpa using h1, by rw [fnd, if_neg hx, h2]; rfl, fun c hc => ?_⟩
      rw [put1, if_neg (by rw [hc]; exact hx), h3 c hc]
      rfl
theorem put1_none {l : List (List Int)} {c : List Int} (h : ∀ y ∈ l, hd y ≠ hd c) : put1 l c = l ++ [c] := by
  induction l with
  | nil => rfl
  | cons x l ih =>
    rw [put1, if_neg (h x (by simp)), ih fun y hy => h y (by simp [hy])]
    rfl
theorem put1_length {l : List (List Int)} {c : List Int} : l.length ≤ (put1 l c).length ∧ (put1 l c).length ≤ l.length + 1 := by
  induction l with
  | nil => simp [put1]
  | cons x l ih =>
    rw [put1]
    split
    · simp
    · simp only [List.length_cons]; omega
theorem put1_size {m : Nat} {l : List (List Int)} {c : List Int} (h : ∀ y ∈ l, y.length = m) (hc : c.length = m) : ∀ y ∈ put1 l c, y.length = m := by
  induction l with
  | nil => intro y hy; simp [put1] at hy; rw [hy]; exact hc
  | cons x l ih =>
    intro y hy
    rw [put1] at hy
    split at hy
    · rcases List.mem_cons.1 hy with rfl | hy
      · exact hc
      · exact h y (by simp [hy])
    · rcases List.mem_cons.1 hy with rfl | hy
      · exact h y (by simp)
      · exact ih (fun z hz => h z (by simp [hz])) y hy
theorem fnd_put1 (l : List (List Int)) (c : List Int) : fnd (hd c) (put1 l c) = some c := by
  induction l with
  | nil => simp [put1, fnd]
  | cons x l ih =>
    rw [put1]
    split
    · rw [fnd, if_pos rfl]
    · rename_i hx
      rw [fnd, if_neg hx, ih]
theorem fnd_other {k : Int} (l : List (List Int)) (c : List Int) (h : k ≠ hd c) : fnd k (put1 l c) = fnd k l := by
  induction l with
  | nil => simp [put1, fnd, Ne.symm h]
  | cons x l ih =>
    rw [put1]
    split
    · rename_i hx
      rw [fnd, fnd, if_neg (Ne.symm h), if_neg (by rw [hx]; exact Ne.symm h)]
    · rw [fnd, fnd, ih]
theorem puts_nil (l : List (List Int)) : puts l [] = l := rfl
theorem puts_snoc (l m : List (List Int)) (c : List Int) : puts l (m ++ [c]) = put1 (puts l m) c := by simp [puts]
theorem puts_cons (l m : List (List Int)) (c : List Int) : puts l (c :: m) = puts (put1 l c) m := rfl
theorem puts_length (l m : List (List Int)) : (puts l m).length ≤ l.length + m.length := by
  induction m generalizing l with
  | nil => simp [puts]
  | cons c m ih =>
    have h1 := ih (put1 l c)
    have h2 := (put1_length (l := l) (c := c)).2
    rw [puts_cons]
    simp only [List.length_cons]
    omega
theorem puts_size {m : Nat} {l k : List (List Int)} (h : ∀ y ∈ l, y.length = m) (hk : ∀ y ∈ k, y.length = m) : ∀ y ∈ puts l k, y.length = m := by
  induction k generalizing l with
  | nil => exact h
  | cons c k ih => exact ih (put1_size h (hk c (by simp))) (fun y hy => hk y (by simp [hy]))

/-- No child stands twice. -/
def Onc (l : List (List Int)) : Prop := l.Pairwise fun x y => hd x ≠ hd y
theorem put1_put1 (l : List (List Int)) {x c : List Int} (h : hd x = hd c) : put1 (put1 l x) c = put1 l c := by
  induction l with
  | nil => simp [put1, h]
  | cons y l ih =>
    by_cases hy : hd y = hd x
    · rw [put1, if_pos hy, put1, if_pos h, put1, if_pos (by rw [hy, h])]
    · rw [put1, if_neg hy, put1, if_neg (by rw [← h]; exact hy), put1, if_neg (by rw [← h]; exact hy), ih]
/-- It is there already. -/
def Thr (k : Int) (l : List (List Int)) : Prop := ∃ y ∈ l, hd y = k
theorem thr_put1 {k : Int} {l : List (List Int)} (c : List Int) (h : Thr k l) : Thr k (put1 l c) := by
  induction l with
  | nil => obtain ⟨y, hy, _⟩ := h; simp at hy
  | cons x l ih =>
    rw [put1]
    obtain ⟨y, hy, hk⟩ := h
    split
    · rename_i hx
      rcases List.mem_cons.1 hy with rfl | hy
      · exact ⟨c, by simp, by rw [← hx, hk]⟩
      · exact ⟨y, by simp [hy], hk⟩
    · rcases List.mem_cons.1 hy with rfl | hy
      · exact ⟨y, by simp, hk⟩
      · obtain ⟨z, hz, e⟩ := ih ⟨y, hy, hk⟩
        exact ⟨z, by simp [hz], e⟩
theorem thr_self (l : List (List Int)) (c : List Int) : Thr (hd c) (put1 l c) := by
  induction l with
  | nil => exact ⟨c, by simp [put1], rfl⟩
  | cons x l ih =>
    rw [put1]
    split
    · exact ⟨c, by simp, rfl⟩
    · obtain ⟨z, hz, e⟩ := ih
      exact ⟨z, by simp [hz], e⟩
theorem put1_comm {l : List (List Int)} {x c : List Int} (h : hd x ≠ hd c) (ht : Thr (hd c) l) : put1 (put1 l x) c = put1 (put1 l c) x := by
  induction l with
  | nil => obtain ⟨y, hy, _⟩ := ht; simp at hy
  | cons y l ih =>
    by_cases h1 : hd y = hd x
    · have h2 : hd y ≠ hd c := by rw [h1]; exact h
      rw [put1, if_pos h1, put1, if_neg h, put1, if_neg h2, put1, if_pos h1]
    · by_cases h2 : hd y = hd c
      · rw [put1, if_neg h1, put1, if_pos h2, put1, if_pos h2, put1, if_neg (Ne.symm h)]
      · rw [put1, if_neg h1, put1, if_neg h2, put1, if_neg h2, put1, if_neg h1, ih]
        obtain ⟨z, hz, e⟩ := ht
        rcases List.mem_cons.1 hz with rfl | hz
        · exact absurd e h2
        · exact ⟨z, hz, e⟩
theorem put1_puts {a : List (List Int)} : ∀ {l : List (List Int)} {c : List Int}, (∀ y ∈ a, hd y ≠ hd c) → Thr (hd c) l → put1 (puts l a) c = puts (put1 l c) a := by
  induction a with
  | nil => intros; rfl
  | cons x a ih =>
    intro l c h ht
    rw [puts_cons, puts_cons, ih (fun y hy => h y (by simp [hy])) (thr_put1 x ht), put1_comm (h x (by simp)) ht]
theorem puts_put1 {a : List (List Int)} : ∀ {l : List (List Int)} {c : List Int}, Onc a → puts l (put1 a c) = put1 (puts l a) c := by
  induction a with
  | nil => intros; rfl
  | cons x a ih =>
    intro l c h
    obtain ⟨h1, h2⟩ := List.pairwise_cons.1 h
    by_cases hx : hd x = hd c
    · rw [put1, if_pos hx, puts_cons, puts_cons, put1_puts (fun y hy => by rw [← hx]; exact Ne.symm (h1 y hy)) (by rw [← hx]; exact thr_self l x), put1_put1 l hx]
    · rw [put1, if_neg hx, puts_cons, puts_cons, ih h2]
theorem mem_put1 {l : List (List Int)} {c y : List Int} (h : y ∈ put1 l c) : y = c ∨ y ∈ l := by
  induction l with
  | nil => simp [put1] at h; exact .inl h
  | cons x l ih =>
    rw [put1] at h
    split at h
    · rcases List.mem_cons.1 h with rfl | h
      · exact .inl rfl
      · exact .inr (by simp [h])
    · rcases List.mem_cons.1 h with rfl | h
      · exact .inr (by simp)
      · rcases ih h with e | e
        · exact .inl e
        · exact .inr (by simp [e])
theorem onc_put1 {l : List (List Int)} (c : List Int) (h : Onc l) : Onc (put1 l c) := by
  induction l with
  | nil => simp [put1, Onc]
  | cons x l ih =>
    obtain ⟨h1, h2⟩ := List.pairwise_cons.1 h
    rw [put1]
    split
    · rename_i hx
      exact List.pairwise_cons.2 ⟨fun y hy => by rw [← hx]; exact h1 y hy, h2⟩
    · rename_i hx
      refine List.pairwise_cons.2 ⟨fun y hy => ?_, ih h2⟩
      rcases mem_put1 hy with rfl | hy
      · exact hx
      · exact h1 y hy
theorem puts_puts {b : List (List Int)} : ∀ {l a : List (List Int)}, Onc a → puts l (puts a b) = puts (puts l a) b := by
  induction b with
  | nil => intros; rfl
  | cons c b ih =>
    intro l a h
    rw [puts_cons, puts_cons, ih (onc_put1 c h), puts_put1 h]
/-- Each put anew, in a list of itself: it is that list, where none stands twice. -/
theorem puts_self_nil {a : List (List Int)} (h : Onc a) : puts [] a = a := by
  suffices H : ∀ (p a : List (List Int)), Onc (p ++ a) → puts p a = p ++ a from H [] a h
  intro p a
  induction a generalizing p with
  | nil => intro _; simp [puts]
  | cons c a ih =>
    intro h
    have hn : ∀ y ∈ p, hd y ≠ hd c := fun y hy => (List.pairwise_append.1 h).2.2 y hy c (by simp)
    rw [puts_cons, put1_none hn, ih _ (by simpa using h)]
    simp

/-- What a surface has, or is to have. -/
structure Sq where
  at_ : Bool
  buf : Int
  dm : List (List Int)
  fr : List (List Int)
  inp : Bool
  all : Bool
  rg : List (List Int)
  ord : Bool
  od : List (List Int)
  pl : List (List Int)

def mrg (a b : Sq) : Sq := ⟨a.at_ || b.at_, bif b.at_ then b.buf else a.buf, a.dm ++ b.dm, a.fr ++ b.fr, a.inp || b.inp, bif b.inp then b.all else a.all, bif b.inp then b.rg else a.rg, a.ord || b.ord, bif b.ord then b.od else a.od, puts a.pl b.pl⟩
def apl (a b : Sq) : Sq := { mrg a b with at_ := false, inp := false, ord := false, dm := [] }
def non (s : Sq) : Bool := !s.at_ && (!s.inp && (!s.ord && (s.dm.isEmpty && (s.fr.isEmpty && s.pl.isEmpty))))
def few (s : Sq) : Bool := decide (s.dm.length ≤ 60) && (decide (s.fr.length ≤ 60) && (decide (s.rg.length ≤ 60) && (decide (s.od.length ≤ 60) && decide (s.pl.length ≤ 60))))
def sq0 : Sq := ⟨false, 0, [], [], false, false, [], false, [], []⟩
theorem mrg_buf (a b : Sq) (n : Sq) : (mrg (mrg n a) b).buf = (mrg n (mrg a b)).buf := by
  simp only [mrg]
  cases a.at_ <;> cases b.at_ <;> rfl
theorem mrg_od (a b : Sq) (n : Sq) : (mrg (mrg n a) b).od = (mrg n (mrg a b)).od := by
  simp only [mrg]
  cases a.ord <;> cases b.ord <;> rfl
theorem apl_mrg {n a b : Sq} (h : Onc a.pl) : apl n (mrg a b) = apl (apl n a) b := by
  simp only [apl, mrg, List.append_assoc, puts_puts h]
  congr 1
  · cases a.at_ <;> cases b.at_ <;> rfl
  · cases a.inp <;> cases b.inp <;> rfl
  · cases a.inp <;> cases b.inp <;> rfl
  · cases a.ord <;> cases b.ord <;> rfl
theorem apl_sq0 (n : Sq) : apl n sq0 = { n with at_ := false, inp := false, ord := false, dm := [] } := by
  simp [apl, mrg, sq0, puts_nil]
theorem apl_apl_sq0 (n : Sq) : apl (apl n sq0) sq0 = apl n sq0 := by simp [apl_sq0]
end Go.Proofs.YtmiapccngeafkaaDoor

/- A block whole; a struct of six numbers read; over any program. -/
namespace Go.Proofs.YtmiapccngeafkaaDoor
open Go Go.RowKit

/-- A block whole. -/
structure Bk (u : World) (p T : Nat) (cs : Array Value) : Prop where
  obj : u.heap[p]? = some (.cells cs T (0, 0))
theorem Bk.lt {u : World} {p T : Nat} {cs : Array Value} (h : Bk u p T cs) : p < u.heap.size := (Array.getElem?_eq_some_iff.1 h.obj).1
theorem Bk.cell {u : World} {p T : Nat} {cs : Array Value} (h : Bk u p T cs) (k : Nat) : u.cell? ⟨p, k, none⟩ = cs[k]? := Lib.cell_of_heap h.obj k
theorem Bk.fz {u : World} {p T : Nat} {cs : Array Value} (h : Bk u p T cs) (k : Nat) : u.frozen? ⟨p, k, none⟩ = false := Lib.frozen_of_heap h.obj k
theorem Bk.on {u v : World} {p T : Nat} {cs : Array Value} (h : Bk u p T cs) (hb : Below u.heap.size u v) : Bk v p T cs := ⟨by rw [hb.block p h.lt]; exact h.obj⟩
theorem Bk.kp {u v : World} {p T : Nat} {cs : Array Value} (h : Bk u p T cs) {X : List Nat} (hb : Kp X u v) (hX : p ∉ X) : Bk v p T cs := ⟨hb.var h.obj hX⟩
theorem bk_new (w : World) (cs : Array Value) (T : Nat) : Bk (w.alloc (.cells cs T)) w.heap.size T cs := ⟨heap_alloc_new w _⟩
theorem Bk.set {u : World} {p T : Nat} {cs : Array Value} (h : Bk u p T cs) (k : Nat) (v : Value) : Bk (u.setCell ⟨p, k, none⟩ v) p T (cs.setIfInBounds k v) := ⟨heap_setCell_same _ p k _ _ _ h.obj⟩
theorem Bk.other {u : World} {p q T : Nat} {cs : Array Value} (h : Bk u p T cs) (hn : p ≠ q) (k : Nat) (v : Value) : Bk (u.setCell ⟨q, k, none⟩ v) p T cs := ⟨by rw [heap_setCell_other _ _ _ _ hn]; exact h.obj⟩
theorem bel_new (w : World) (o : Obj) : Below w.heap.size w (w.alloc o) := (Below.refl _ _).alloc (Nat.le_refl _) _
theorem size_new (w : World) (o : Obj) : (w.alloc o).heap.size = w.heap.size + 1 := by simp

theorem results_cell_tmp' {P : Program} {fn : Func} {p u : Tmp} {ty : TypeId} (h : fn.results = #[.cell p ty, .tmp u]) (tmps : Array Value) (w : World) (g : Nat) (t : TypeId) (cs : Array Value) (fr : Nat × Nat) (d : TypeDesc)
    (hp : tmps.getD p undef = .pointer (some ⟨g, 0, none⟩)) (hg : w.heap[g]? = some (.cells cs t fr))
    (hu : P.underlying ty = some d) (hd : (match d with | .struct _ | .array _ _ => true | _ => false) = true) (hi : (P.info? ty).map (·.size) = some cs.size) :
    (results fn tmps).run P w = .ok (.tuple #[.agg cs, tmps.getD u undef]) w := by
  have hp' : tmps[p]?.getD undef = .pointer (some ⟨g, 0, none⟩) := by simpa using hp
  simp [results, h, hp', asAddr, run_loadVar_row w g t ty cs fr d hg hu hd hi]
theorem RdM.el6 {w : World} {a : Option Addr} {n c : Nat} {l : List (List Int)} (h : RdM 6 w a n c l) {j : Nat} (hj : j < n) : ∃ b off z0 z1 z2 z3 z4 z5, a = some ⟨b, off, none⟩ ∧ b < w.heap.size ∧ l[j]? = some [z0, z1, z2, z3, z4, z5] ∧ w.cell? ⟨b, off + j * 6, none⟩ = some (.int .i64 z0) ∧ w.cell? ⟨b, off + j * 6 + 1, none⟩ = some (.int .i64 z1) ∧ w.cell? ⟨b, off + j * 6 + 2, none⟩ = some (.int .i64 z2) ∧ w.cell? ⟨b, off + j * 6 + 3, none⟩ = some (.int .i64 z3) ∧ w.cell? ⟨b, off + j * 6 + 4, none⟩ = some (.int .i64 z4) ∧ w.cell? ⟨b, off + j * 6 + 5, none⟩ = some (.int .i64 z5) := by
  obtain ⟨b, off, y, e, h1, h2, h3, h4⟩ := h.at_ hj
  match y, h3 with
  | [z0, z1, z2, z3, z4, z5], _ => exact ⟨b, off, z0, z1, z2, z3, z4, z5, e, h1, h2, by simpa using h4 0 z0 rfl, by simpa [Nat.add_assoc] using h4 1 z1 rfl, by simpa [Nat.add_assoc] using h4 2 z2 rfl, by simpa [Nat.add_assoc] using h4 3 z3 rfl, by simpa [Nat.add_assoc] using h4 4 z4 rfl, by simpa [Nat.add_assoc] using h4 5 z5 rfl⟩
theorem fits48 {need b : Nat} (h : need ≤ 1000000000) (hb : b ≤ 48) : ∀ old, old < need → Builtin.nextslicecap need old * b ≤ 281474976710656 := fun old ho => by
  have h1 := nextslicecap_near ho
  have h2 : Builtin.nextslicecap need old * b ≤ Builtin.nextslicecap need old * 48 := Nat.mul_le_mul_left _ hb
  omega
/-- A struct's i-th number. -/
def nm5 (i : Nat) (y : List Int) : Int := y.getD i 0

end Go.Proofs.YtmiapccngeafkaaDoor

/- Images, and what is painted: nothing of the program but its canvas. -/
namespace Go.Proofs.YtmiapccngeafkaaDoor
open Go Go.RowKit

/-- An image: its number, its sides, where its points lie, and these. -/
structure Gv where
  b : Int
  w : Int
  h : Int
  a : Option Addr
  n : Nat
  c : Nat
  l : List Int
def gvv (g : Gv) : Array Value := #[.int .i64 g.b, .int .i64 g.w, .int .i64 g.h, .slice g.a g.n g.c]
/-- What an image says, wherever its points lie. -/
structure Im where
  b : Int
  w : Int
  h : Int
  l : List Int
def gcl (g : Gv) : Im := ⟨g.b, g.w, g.h, g.l⟩
def gz : Gv := ⟨0, 0, 0, none, 0, 0, []⟩
/-- The first one of a number. -/
def gf (k : Int) (gs : List Gv) : Option Gv := gs.find? fun g => g.b == k
def imf (k : Int) (I : List Im) : Option Im := I.find? fun x => x.b == k
theorem gf_imf (k : Int) (gs : List Gv) : imf k (gs.map gcl) = (gf k gs).map gcl := by
  rw [imf, gf, List.find?_map]
  rfl
theorem gf_at {k : Int} {gs : List Gv} {j : Nat} {g : Gv} (hN : ∀ (i : Nat) (x : Gv), i < j → gs[i]? = some x → x.b ≠ k) (hj : gs[j]? = some g) (hg : g.b = k) : gf k gs = some g := by
  induction gs generalizing j with
  | nil => simp at hj
  | cons x gs ih =>
    cases j with
    | zero =>
      simp only [List.getElem?_cons_zero, Option.some.injEq] at hj
      subst hj
      simp [gf, hg]
    | succ j =>
      have hx := hN 0 x (by omega) rfl
      have : (x.b == k) = false := by simpa using hx
      rw [gf, List.find?_cons, this]
      exact ih (j := j) (fun i y hi hy => hN (i + 1) y (by omega) (by simpa using hy)) (by simpa using hj)
theorem gf_none {k : Int} {gs : List Gv} (hN : ∀ (i : Nat) (x : Gv), gs[i]? = some x → x.b ≠ k) : gf k gs = none := by
  rw [gf, List.find?_eq_none]
  intro x hx
  obtain ⟨i, hi⟩ := List.getElem?_of_mem hx
  simpa using hN i x hi
theorem gf_mem {k : Int} {gs : List Gv} {g : Gv} (h : gf k gs = some g) : g ∈ gs := List.mem_of_find?_eq_some h
/-- What Find answers. -/
def fdv (o : Option Gv) : Value := .tuple #[.agg (gvv (o.getD gz)), .bool o.isSome]
/-- Where IndexFunc says that it stands. -/
def IxR (k : Int) (gs : List Gv) (e : Ending) : Prop := (e = .returned (.int .i64 (-1)) ∧ gf k gs = none) ∨ ∃ (j : Nat) (g : Gv), e = .returned (.int .i64 j) ∧ gs[j]? = some g ∧ gf k gs = some g

/-- An image's numbers, and its points, as they are read. -/
structure GOk (w : World) (g : Gv) : Prop where
  kb : I64 g.b
  kw : I64 g.w
  kh : I64 g.h
  px : RdI .u32 w g.a g.n g.c g.l
theorem RdI.kp {k : IntKind} {w w' : World} {X : List Nat} {a : Option Addr} {n c : Nat} {l : List Int} (h : RdI k w a n c l) (hk : Kp X w w') (hX : 0 < n → ∀ x, a = some x → x.block ∉ X) : RdI k w' a n c l :=
  ⟨h.len, h.le, h.max, h.hnil, fun z hz j hj => by
    have h' := h.cells z hz j hj
    obtain ⟨b', off, e, _⟩ := h.plain (by omega)
    rw [hz] at e
    cases e
    rw [Go.WideShapes.add_plain] at h' ⊢
    exact hk.cell h' (by simpa using hX (by omega) _ hz), h.wf⟩
theorem GOk.on {w u : World} {g : Gv} (h : GOk w g) (hb : Below w.heap.size w u) : GOk u g := ⟨h.kb, h.kw, h.kh, h.px.on hb⟩
theorem GOk.kp {w u : World} {g : Gv} (h : GOk w g) {X : List Nat} (hk : Kp X w u) (hX : 0 < g.n → ∀ x, g.a = some x → x.block ∉ X) : GOk u g := ⟨h.kb, h.kw, h.kh, h.px.kp hk hX⟩
theorem gz_ok (w : World) : GOk w gz := ⟨by rw [I64]; decide, by rw [I64]; decide, by rw [I64]; decide, RdI.nil _ w⟩

/-- A slice of images. -/
structure RdG (w : World) (a : Option Addr) (n c : Nat) (gs : List Gv) : Prop where
  len : gs.length = n
  le : n ≤ c
  max : c ≤ maxLen
  hnil : a = none → c = 0
  pl : 0 < n → ∃ b off, a = some ⟨b, off, none⟩ ∧ b < w.heap.size ∧ ∀ j g, gs[j]? = some g → ∀ i v, (gvv g)[i]? = some v → w.cell? ⟨b, off + (j * 4 + i), none⟩ = some v
  ok : ∀ g ∈ gs, GOk w g
theorem RdG.nil (w : World) : RdG w none 0 0 [] := ⟨rfl, Nat.le_refl _, Nat.zero_le _, fun _ => rfl, fun h => absurd h (by omega), by simp⟩
theorem RdG.small {w : World} {a : Option Addr} {n c : Nat} {gs : List Gv} (h : RdG w a n c gs) : n ≤ 9223372036854775807 ∧ c ≤ 9223372036854775807 := by
  have h1 := h.le
  have h2 := h.max
  simp only [maxLen] at h2
  omega
/-- None of it lies in a block of X. -/
structure GAp (X : List Nat) (a : Option Addr) (n : Nat) (gs : List Gv) : Prop where
  row : 0 < n → ∀ x, a = some x → x.block ∉ X
  px : ∀ g ∈ gs, 0 < g.n → ∀ x, g.a = some x → x.block ∉ X
theorem RdG.kp {w u : World} {a : Option Addr} {n c : Nat} {gs : List Gv} (h : RdG w a n c gs) {X : List Nat} (hk : Kp X w u) (hX : GAp X a n gs) : RdG u a n c gs :=
  ⟨h.len, h.le, h.max, h.hnil, fun hn => by
    obtain ⟨b, off, e, h1, h2⟩ := h.pl hn
    exact ⟨b, off, e, Nat.lt_of_lt_of_le h1 hk.size, fun j g hj i v hv => hk.cell (h2 j g hj i v hv) (by simpa using hX.row hn _ e)⟩, fun g hg => (h.ok g hg).kp hk (hX.px g hg)⟩
theorem RdG.on {w u : World} {a : Option Addr} {n c : Nat} {gs : List Gv} (h : RdG w a n c gs) (hb : Below w.heap.size w u) : RdG u a n c gs := h.kp (kp_of_below hb []) ⟨fun _ _ _ => by simp, fun _ _ _ _ _ => by simp⟩
/-- What was there lies apart from what is made since. -/
theorem RdG.low {w : World} {a : Option Addr} {n c : Nat} {gs : List Gv} (h : RdG w a n c gs) {X : List Nat} (hX : ∀ k ∈ X, w.heap.size ≤ k) : GAp X a n gs :=
  ⟨fun hn x hx hm => by
    obtain ⟨b, off, e, h1, _⟩ := h.pl hn
    rw [hx] at e
    cases e
    have := hX _ hm
    dsimp only at this
    omega, fun g hg hn x hx hm => by
    obtain ⟨b, off, e, h1, _⟩ := (h.ok g hg).px.plain hn
    rw [hx] at e
    cases e
    have := hX _ hm
    dsimp only at this
    omega⟩
theorem RdG.el {w : World} {a : Option Addr} {n c : Nat} {gs : List Gv} (h : RdG w a n c gs) {j : Nat} (hj : j < n) : ∃ b off g, a = some ⟨b, off, none⟩ ∧ b < w.heap.size ∧ gs[j]? = some g ∧ GOk w g ∧ w.cell? ⟨b, off + j * 4, none⟩ = some (.int .i64 g.b) ∧ w.cell? ⟨b, off + j * 4 + 1, none⟩ = some (.int .i64 g.w) ∧ w.cell? ⟨b, off + j * 4 + 2, none⟩ = some (.int .i64 g.h) ∧ w.cell? ⟨b, off + j * 4 + 3, none⟩ = some (.slice g.a g.n g.c) := by
  obtain ⟨b, off, e, h1, h2⟩ := h.pl (by omega)
  have hl := h.len
  have hg : gs[j]? = some gs[j] := List.getElem?_eq_getElem (by omega)
  have h4 := h2 j _ hg
  exact ⟨b, off, _, e, h1, hg, h.ok _ (List.mem_of_getElem? hg), by simpa using h4 0 (.int .i64 gs[j].b) rfl, by simpa [Nat.add_assoc] using h4 1 (.int .i64 gs[j].w) rfl, by simpa [Nat.add_assoc] using h4 2 (.int .i64 gs[j].h) rfl, by simpa [Nat.add_assoc] using h4 3 (.slice gs[j].a gs[j].n gs[j].c) rfl⟩

/-! What is painted. -/
/-- A view's image drawn over L, in clip. -/
def ptc (W : Nat) (l : List Rc) (I : List Im) (L : List Int) (y : List Int) : List Int := match imf (nm5 1 y) I with
  | some x => drw W (nm5 2 y) (nm5 3 y) x.w x.h x.l l L
  | none => L
def pnc (W : Nat) (back : Int) (l : List Rc) (V : List (List Int)) (I : List Im) (L : List Int) : List Int := V.foldl (ptc W l I) (fll W back l L)
theorem ptc_length {W : Nat} {l : List Rc} {I : List Im} {L : List Int} {y : List Int} : (ptc W l I L y).length = L.length := by
  unfold ptc
  split
  · exact drw_length
  · rfl
theorem foldl_ptc_length {W : Nat} {l : List Rc} {I : List Im} {V : List (List Int)} {L : List Int} : (V.foldl (ptc W l I) L).length = L.length := by
  induction V generalizing L with
  | nil => rfl
  | cons y V ih => rw [List.foldl_cons, ih, ptc_length]
theorem pnc_length {W : Nat} {back : Int} {l : List Rc} {V : List (List Int)} {I : List Im} {L : List Int} : (pnc W back l V I L).length = L.length := by
  rw [pnc, foldl_ptc_length, fll_length]
/-- One point of a view's image over z. -/
def pto (l : List Rc) (I : List Im) (u v : Int) (z : Int) (y : List Int) : Int := match imf (nm5 1 y) I with
  | some x => if okD (nm5 2 y) (nm5 3 y) x.w x.h && (has ⟨nm5 2 y, nm5 3 y, x.w, x.h⟩ u v && inC l u v) then gD (nm5 2 y) (nm5 3 y) x.w x.l u v z else z
  | none => z
theorem ptc_get {W : Nat} {l : List Rc} {I : List Im} {L : List Int} {y : List Int} {u v : Nat} (hu : u < W) : (ptc W l I L y)[v * W + u]? = L[v * W + u]?.map fun z => pto l I u v z y := by
  unfold ptc pto
  cases imf (nm5 1 y) I with
  | none => simp
  | some x =>
    dsimp only
    cases hok : okD (nm5 2 y) (nm5 3 y) x.w x.h with
    | false =>
      rw [drw, hok]
      simp
    | true =>
      rw [drw_get hok hu]
      simp only [Bool.true_and]
theorem foldl_ptc_get {W : Nat} {l : List Rc} {I : List Im} {V : List (List Int)} {L : List Int} {u v : Nat} (hu : u < W) : (V.foldl (ptc W l I) L)[v * W + u]? = L[v * W + u]?.map fun z => V.foldl (pto l I u v) z := by
  induction V generalizing L with
  | nil => simp
  | cons y V ih =>
    rw [List.foldl_cons, ih, ptc_get hu, Option.map_map]
    rfl
theorem pnc_get {W : Nat} {back : Int} {l : List Rc} {V : List (List Int)} {I : List Im} {L : List Int} {u v : Nat} (hu : u < W) : (pnc W back l V I L)[v * W + u]? = L[v * W + u]?.map fun z => V.foldl (pto l I u v) (if inC l u v then back else z) := by
  rw [pnc, foldl_ptc_get hu, fll_get hu, Option.map_map]
  rfl
/-- Where both clips have all, they make the same. -/
theorem pnc_all {W H : Nat} {back : Int} {l m : List Rc} {V : List (List Int)} {I : List Im} {L M : List Int} (hL : L.length = W * H) (hM : M.length = W * H) (hl : ∀ u v : Nat, u < W → v < H → inC l u v = true) (hm : ∀ u v : Nat, u < W → v < H → inC m u v = true) : pnc W back l V I L = pnc W back m V I M := by
  apply List.ext_getElem?
  intro i
  by_cases hi : i < W * H
  · obtain ⟨u, v, hu, hv, rfl⟩ := place_eq hi
    rw [pnc_get hu, pnc_get hu]
    have e1 : L[v * W + u]? = some L[v * W + u] := List.getElem?_eq_getElem (by omega)
    have e2 : M[v * W + u]? = some M[v * W + u] := List.getElem?_eq_getElem (by omega)
    have e3 : pto l I u v = pto m I u v := by
      funext z y
      unfold pto
      rw [hl u v hu hv, hm u v hu hv]
    rw [e1, e2, Option.map_some, Option.map_some, hl u v hu hv, hm u v hu hv, e3]
    rfl
  · rw [List.getElem?_eq_none (by rw [pnc_length]; omega), List.getElem?_eq_none (by rw [pnc_length]; omega)]
theorem inC_ara {W H u v : Nat} (hW : 1 ≤ W ∧ W ≤ 48) (hH : 1 ≤ H ∧ H ≤ 48) (hu : u < W) (hv : v < H) : inC [ara W H] u v = true := by
  rw [inC_one (ara_ck hW hH), has_ara hW.1 hH.1]
  simp only [Bool.and_eq_true, decide_eq_true_eq]
  omega
/-- The document's rectangle with all. -/
def evr : Rc := ⟨-16777216, -16777216, 33554432, 33554432⟩
theorem evr_ok : evr.Ok := ⟨by rw [evr]; decide, by rw [evr]; decide, by rw [evr]; decide, by rw [evr]; decide⟩
theorem inC_evr {u v : Nat} (hu : u < 48) (hv : v < 48) : inC [evr] u v = true := by
  simp only [inC, List.any_cons, List.any_nil, Bool.or_false]
  rw [show bnd evr = evr by kernel_rfl, has_iff]
  simp only [evr]
  omega
end Go.Proofs.YtmiapccngeafkaaDoor

/- The program's images: slices.Clone of points, first, Find. -/
namespace Go.Proofs.YtmiapccngeafkaaDoor
open Go Go.RowKit

/-- Points handed back, new ones. -/
def NwP (w : World) (n : Nat) (l : List Int) (e : Ending) (w' : World) : Prop := ∃ a c, e = .returned (.slice a n c) ∧ RdI .u32 w' a n c l ∧ (∀ x, a = some x → w.heap.size ≤ x.block) ∧ Below w.heap.size w w'

theorem eqlW0 (w : World) : (binOp BinOp.eql 25 (.slice none 0 0) (.slice none 0 0)).run Tryd.prog w = .ok (.bool true) w := by kernel_rfl
theorem eqlW1 (x : Addr) (n c : Nat) (w : World) : (binOp BinOp.eql 25 (.slice (some x) n c) (.slice none 0 0)).run Tryd.prog w = .ok (.bool false) w := by kernel_rfl
theorem own_emptyW (w : World) : (w.alloc (.cells #[] 22)).ownsRow w.heap.size 22 1 (.slice (some ⟨w.heap.size, 0, none⟩) 0 0) 0 [] :=
  ⟨by simp, .inr ⟨w.heap.size, 0, #[], rfl, Nat.le_refl _, heap_alloc_new w _, Nat.le_refl _, Nat.zero_le _, by simp, by simp⟩⟩
set_option maxRecDepth 100000 in
set_option maxHeartbeats 1000000 in
theorem pclone_any (s : Option Addr) (n c : Nat) (l : List Int) (w : World) (hr : RdI .u32 w s n c l) (hn : n ≤ 1000000) :
    Calls Tryd.prog 41 #[.slice s n c] w (NwP w n l) := by
  obtain ⟨i0, hi, hz0, hz1, hz2⟩ := info32p
  have HL := hid hr.len
  have hb : Below w.heap.size w (w.alloc (.cells #[] 22)) := bel_new w _
  have HS := hid ((hr.on hb).src32 (P := Tryd.prog) (t := 25) (e := 22) Tryd.underlying25)
  have HO := hid (own_emptyW w)
  have HB := hid hb
  have HK := hid (fun z hz => col_of hr (z := z) hz)
  cases s with
  | none =>
    have h1 := hr.hnil rfl
    have h2 := hr.le
    obtain rfl : n = 0 := by omega
    obtain rfl : c = 0 := h1
    have q0 := eqlW0
    obtain rfl : l = [] := List.eq_nil_of_length_eq_zero HL.out
    clear hr hb HS HO
    go_enter Tryd.func41, Tryd.ntmps41
    go_wp2
    go_ret
    exact ⟨none, 0, rfl, RdI.nil _ _, (fun x hx => by cases hx), Below.refl _ _⟩
  | some x =>
    have q0 := eqlW1
    clear hr hb
    go_enter Tryd.func41, Tryd.ntmps41
    go_wp2_with (at_builtin; refine wpList_append_own_src _ rfl (.tmp 5) (.tmp 6) 25 25 rfl w.heap.size 22 i0 (.int .u32 0) 1 4 Tryd.underlying25 hi hz0 hz1 hz2 rfl _ _ _ rfl HO.out _ _ _ rfl HS.out (by simp only [maxLen]; omega) (fits4 (by omega)) HB.out.size ?_; intro v3 w3 o3 g3; have HO3 := hid o3; have HG3 := hid g3; clear o3 g3)
    go_ret
    have h3 := HO3.out
    rw [Nat.zero_add, List.nil_append] at h3
    obtain ⟨a, c', rfl, hR, hab⟩ := rdw_of_owns h3 HK.out
    exact ⟨a, c', rfl, hR, fun x hx => (hab x hx).1, HB.out.trans ((kp_of_grown HG3.out).below HB.out.size (fun k hk => Nat.le_of_eq (List.mem_singleton.1 (show k ∈ [w.heap.size] from hk)).symm))⟩

set_option maxRecDepth 100000 in
theorem pfst_fn (k : Int) (w : World) (q : Nat) (hq : w.cell? ⟨q, 0, none⟩ = some (.int .i64 k)) (b0 b1 b2 : Int) (a : Option Addr) (n c : Nat) (u : World) (hu : Below w.heap.size w u) :
    Calls Tryd.prog 36 (#[.agg #[.int .i64 b0, .int .i64 b1, .int .i64 b2, .slice a n c]] ++ #[.pointer (some ⟨q, 0, none⟩)]) u fun e w' => e = .returned (.bool (b0 == k)) ∧ Below u.heap.size u w' := by
  have hlt := World.block_lt_of_cell? w _ hq
  have hc : u.cell? ⟨q, 0, none⟩ = some (.int .i64 k) := by rw [hu.cell hlt]; exact hq
  have hb := bel_new u (.cells #[.int .i64 b0, .int .i64 b1, .int .i64 b2, .slice a n c] 41)
  have hc2 : (u.alloc (.cells #[.int .i64 b0, .int .i64 b1, .int .i64 b2, .slice a n c] 41)).cell? ⟨q, 0, none⟩ = some (.int .i64 k) := by rw [hb.cell (World.block_lt_of_cell? u _ hc)]; exact hc
  have HB := hid hb
  clear hb hu
  go_enter Tryd.func36, Tryd.ntmps36
  go_wp2
  go_ret
  exact ⟨rfl, HB.out⟩

set_option maxRecDepth 100000 in
set_option maxHeartbeats 1000000 in
theorem pfst_ix (a : Option Addr) (n c : Nat) (gs : List Gv) (k : Int) (q : Nat) (w : World) (h : RdG w a n c gs) (hq : w.cell? ⟨q, 0, none⟩ = some (.int .i64 k)) :
    Calls Tryd.prog 35 #[.slice a n c, .func (.func 36) #[] #[.pointer (some ⟨q, 0, none⟩)]] w fun e w' => IxR k gs e ∧ Below w.heap.size w w' := by
  have HL := hid h.len
  have hs := h.small
  have H := hid h
  have HP : Hid (∀ (b0 b1 b2 : Int) (a : Option Addr) (n c : Nat) (u : World), Below w.heap.size w u → Calls Tryd.prog 36 (#[.agg #[.int .i64 b0, .int .i64 b1, .int .i64 b2, .slice a n c]] ++ #[.pointer (some ⟨q, 0, none⟩)]) u fun e w' => e = .returned (.bool (b0 == k)) ∧ Below u.heap.size u w') := fun b0 b1 b2 a n c u hu => pfst_fn k w q hq b0 b1 b2 a n c u hu
  have eg := enters_of Tryd.func36 (by kernel_rfl) rfl
  clear h hq
  go_enter Tryd.func35, Tryd.ntmps35
  go_wp2
  go_loopw [8] (fun i wr => ∃ j : Nat, i = .int .i64 j ∧ j ≤ n ∧ (∀ i x, i < j → gs[i]? = some x → x.b ≠ k) ∧ RowKit.Below w.heap.size w wr) (fun i _ => n - (numOf i).toNat)
  case atStart => exact ⟨0, rfl, by omega, fun k r hk => absurd hk (by omega), Below.refl _ _⟩
  case round =>
    obtain ⟨j, rfl, hj, hN, hb⟩ := hrel
    have HN := hid hN
    have HB := hid hb
    clear hN hb
    by_cases hgo : j < n
    · have e1 : decide ((j : Int) < n) = true := decide_eq_true (by omega)
      obtain ⟨b, off, g, rfl, _, hr, _, c0, c1, c2, c3⟩ := (H.out.on HB.out).el hgo
      obtain ⟨g0, g1, g2, ga, gn, gc, gl⟩ := g
      dsimp only at c0 c1 c2 c3
      have CP := hid (HP.out g0 g1 g2 ga gn gc wr HB.out)
      have HR := hid hr
      have e3 : (j : Int) < n := by omega
      clear hr
      cases hq : (g0 == k)
      · rw [hq] at CP
        have HN2 : Hid (∀ i x, i < j + 1 → gs[i]? = some x → x.b ≠ k) := fun i x hi hx => by
          rcases Nat.lt_or_ge i j with h | h
          · exact HN.out i x h hx
          · obtain rfl : i = j := by omega
            rw [HR.out] at hx
            cases hx
            show g0 ≠ k
            simpa using hq
        clear hq
        go_wp2_with fail
        refine CP.out.mono ?_
        rintro e w2 ⟨rfl, hb2⟩
        have HB2 := hid (Below.on HB.out hb2)
        clear hb2
        go_wp2
        go_roundw
        case rel => exact ⟨j + 1, by go_num, by omega, HN2.out, HB2.out⟩
        case measure => simp [numOf]; omega
      · rw [hq] at CP
        have HI : Hid (IxR k gs (.returned (.int .i64 j))) := .inr ⟨j, _, rfl, HR.out, gf_at HN.out HR.out (show g0 = k by simpa using hq)⟩
        clear hq
        go_wp2_with fail
        refine CP.out.mono ?_
        rintro e w2 ⟨rfl, hb2⟩
        have HB2 := hid (Below.on HB.out hb2)
        clear hb2
        go_wp2
        go_ret
        exact ⟨HI.out, HB2.out⟩
    · have e1 : decide ((j : Int) < n) = false := decide_eq_false (by omega)
      have HI : Hid (IxR k gs (.returned (.int .i64 (-1)))) := .inl ⟨rfl, gf_none fun i x hx => HN.out i x (by
        have := (List.getElem?_eq_some_iff.1 hx).1
        have := HL.out
        omega) hx⟩
      go_wp2
      go_ret
      exact ⟨HI.out, HB.out⟩

theorem info_pim : (Tryd.prog.info? 41).map (·.size) = some 4 := by kernel_rfl

set_option maxRecDepth 100000 in
set_option maxHeartbeats 1000000 in
theorem pfirst_any (a : Option Addr) (n c : Nat) (gs : List Gv) (k : Int) (w : World) (h : RdG w a n c gs) :
    Calls Tryd.prog 20 #[.slice a n c, .int .i64 k] w fun e w' => e = .returned (fdv (gf k gs)) ∧ Below w.heap.size w w' := by
  have hs := h.small
  have hb0 := bel_new w (.cells #[.int .i64 k] 3)
  have hb := Below.on hb0 (bel_new _ (.cells #[.int .i64 0, .int .i64 0, .int .i64 0, .slice none 0 0] 41))
  have h1 := h.on hb
  have HQ := ((bk_new w #[.int .i64 k] 3).on (bel_new _ (.cells #[.int .i64 0, .int .i64 0, .int .i64 0, .slice none 0 0] 41))).cell 0
  have CI := hid (pfst_ix a n c gs k w.heap.size _ h1 HQ)
  have HK : Hid (Bk ((w.alloc (.cells #[.int .i64 k] 3)).alloc (.cells #[.int .i64 0, .int .i64 0, .int .i64 0, .slice none 0 0] 41)) (w.heap.size + 1) 41 #[.int .i64 0, .int .i64 0, .int .i64 0, .slice none 0 0]) := by
    have := bk_new (w.alloc (.cells #[.int .i64 k] 3)) #[.int .i64 0, .int .i64 0, .int .i64 0, .slice none 0 0] 41
    rwa [size_new] at this
  have HB := hid hb
  have HG := hid h1
  clear HQ hb0 h h1 hb
  have hmf : ∀ (fn : Fn) (first cap : Array Value) (w : World), (Instr.makeFunc fn first cap).run Tryd.prog w = .ok (.func fn first cap) w := fun _ _ _ _ => rfl
  go_enter Tryd.func20, Tryd.ntmps20
  go_wp2_with fail
  refine CI.out.mono ?_
  rintro e w2 ⟨hI, hb2⟩
  have HB2 := hid (Below.on HB.out hb2)
  have HK2 := hid (HK.out.on hb2)
  have f0 := HK2.out.fz
  have c0 := HK2.out.cell 0
  have c1 := HK2.out.cell 1
  have c2 := HK2.out.cell 2
  have c3 := HK2.out.cell 3
  have HG2 := hid (HG.out.on hb2)
  have HBF : Hid (∀ v0 v1 v2 v3, Below w.heap.size w ((((w2.setCell ⟨w.heap.size + 1, 0, none⟩ v0).setCell ⟨w.heap.size + 1, 1, none⟩ v1).setCell ⟨w.heap.size + 1, 2, none⟩ v2).setCell ⟨w.heap.size + 1, 3, none⟩ v3)) := fun v0 v1 v2 v3 => (((HB2.out.setCell (p := ⟨w.heap.size + 1, 0, none⟩) (by show w.heap.size ≤ w.heap.size + 1; omega) _).setCell (p := ⟨w.heap.size + 1, 1, none⟩) (by show w.heap.size ≤ w.heap.size + 1; omega) _).setCell (p := ⟨w.heap.size + 1, 2, none⟩) (by show w.heap.size ≤ w.heap.size + 1; omega) _).setCell (p := ⟨w.heap.size + 1, 3, none⟩) (by show w.heap.size ≤ w.heap.size + 1; omega) _
  clear hb2 HG HK HB CI
  rcases hI with ⟨rfl, h0⟩ | ⟨j, g, rfl, hj, hg⟩
  · have HF : Hid (fdv (gf k gs) = .tuple #[.agg #[.int .i64 0, .int .i64 0, .int .i64 0, .slice none 0 0], .bool false]) := by rw [Hid, h0]; rfl
    clear h0
    go_wp2
    refine bodyPost_ret (results_cell_tmp' rfl _ _ (w.heap.size + 1) _ _ _ _ rfl ((((HK2.out.set 0 _).set 1 _).set 2 _).set 3 _).obj Tryd.underlying41 rfl info_pim) rfl ?_
    rw [HF.out]
    exact ⟨rfl, HBF.out _ _ _ _⟩
  · have hin : j < n := by rw [← HG2.out.len]; exact (List.getElem?_eq_some_iff.1 hj).1
    obtain ⟨b, off, g', rfl, _, hr, _, d0, d1, d2, d3⟩ := HG2.out.el hin
    rw [hj] at hr
    cases hr
    obtain ⟨g0, g1, g2, ga, gn, gc, gl⟩ := g
    dsimp only at d0 d1 d2 d3
    have HF : Hid (fdv (gf k gs) = .tuple #[.agg #[.int .i64 g0, .int .i64 g1, .int .i64 g2, .slice ga gn gc], .bool true]) := by rw [Hid, hg]; rfl
    have e1 : (j : Int) < n := by omega
    have e2 : (0 : Int) ≤ j := by omega
    clear hg hj
    go_wp2
    refine bodyPost_ret (results_cell_tmp' rfl _ _ (w.heap.size + 1) _ _ _ _ rfl ((((HK2.out.set 0 _).set 1 _).set 2 _).set 3 _).obj Tryd.underlying41 rfl info_pim) rfl ?_
    rw [HF.out]
    exact ⟨rfl, HBF.out _ _ _ _⟩

/-- What Find hands back: the image with new points. -/
def FdN (w : World) (o : Option Gv) (e : Ending) (w' : World) : Prop := ∃ a c, e = .returned (.tuple #[.agg #[.int .i64 (o.getD gz).b, .int .i64 (o.getD gz).w, .int .i64 (o.getD gz).h, .slice a (o.getD gz).n c], .bool o.isSome]) ∧ RdI .u32 w' a (o.getD gz).n c (o.getD gz).l ∧ (∀ x, a = some x → w.heap.size ≤ x.block) ∧ Below w.heap.size w w'

set_option maxRecDepth 100000 in
set_option maxHeartbeats 1000000 in
theorem pfind_any (a : Option Addr) (n c : Nat) (gs : List Gv) (k : Int) (w : World) (h : RdG w a n c gs) (hn : ∀ g ∈ gs, g.n ≤ 1000000) :
    Calls Tryd.prog 22 #[.slice a n c, .int .i64 k] w (FdN w (gf k gs)) := by
  have hb0 := bel_new w (.cells #[.int .i64 0, .int .i64 0, .int .i64 0, .slice none 0 0] 41)
  have h1 := h.on hb0
  have CI := hid (pfirst_any a n c gs k _ h1)
  have HB := hid hb0
  have HK := hid (bk_new w #[.int .i64 0, .int .i64 0, .int .i64 0, .slice none 0 0] 41)
  have HG : Hid (GOk (w.alloc (.cells #[.int .i64 0, .int .i64 0, .int .i64 0, .slice none 0 0] 41)) ((gf k gs).getD gz) ∧ ((gf k gs).getD gz).n ≤ 1000000) := by
    cases hg : gf k gs with
    | none => exact ⟨gz_ok _, by decide⟩
    | some g => exact ⟨h1.ok g (gf_mem hg), hn g (gf_mem hg)⟩
  obtain ⟨o, ho⟩ : ∃ o, gf k gs = o := ⟨_, rfl⟩
  obtain ⟨s, hs⟩ : ∃ s, o.isSome = s := ⟨_, rfl⟩
  obtain ⟨g, hg⟩ : ∃ g, o.getD gz = g := ⟨_, rfl⟩
  rw [ho, fdv, hs] at CI
  rw [ho] at HG
  rw [ho]
  unfold FdN
  rw [hs]
  rw [hg] at CI HG ⊢
  obtain ⟨g0, g1, g2, ga, gn, gc, gl⟩ := g
  dsimp only [gvv] at CI HG ⊢
  clear h h1 hb0 hn ho hs hg
  go_enter Tryd.func22, Tryd.ntmps22
  go_wp2_with fail
  refine CI.out.mono ?_
  rintro e w2 ⟨rfl, hb2⟩
  have HB2 := hid (Below.on HB.out hb2)
  have HK2 := hid (HK.out.on hb2)
  have HP2 := hid (HG.out.1.px.on hb2)
  have hgn := HG.out.2
  clear hb2 CI HB HK HG
  go_wp2_with fail
  have hbx := bel_new w2 (.cells #[.int .i64 g0, .int .i64 g1, .int .i64 g2, .slice ga gn gc] 41)
  have hk := bk_new w2 #[.int .i64 g0, .int .i64 g1, .int .i64 g2, .slice ga gn gc] 41
  refine (pclone_any ga gn gc gl _ (HP2.out.on hbx) hgn).mono ?_
  rintro e w3 ⟨a3, c3, rfl, hr3, hn3, hb3⟩
  have HK3 := hid (hk.on hb3)
  have HK0 := hid ((HK2.out.on hbx).on hb3)
  have HB3 := hid (Below.on (Below.on HB2.out hbx) hb3)
  have hws : w.heap.size < w2.heap.size := HK2.out.lt
  have hws3 : w2.heap.size < w3.heap.size := HK3.out.lt
  have HFin : Hid (∀ v v0 v1 v2 v3 U, U = (((((w3.setCell ⟨w2.heap.size, 3, none⟩ v).setCell ⟨w.heap.size, 0, none⟩ v0).setCell ⟨w.heap.size, 1, none⟩ v1).setCell ⟨w.heap.size, 2, none⟩ v2).setCell ⟨w.heap.size, 3, none⟩ v3) → RdI .u32 U a3 gn c3 gl ∧ Below w.heap.size w U) := fun v v0 v1 v2 v3 U hU => by
    have hk : Kp [w2.heap.size, w.heap.size] w3 U := by
      rw [hU]
      exact ((((((Kp.refl [w2.heap.size, w.heap.size] w3).set ⟨w2.heap.size, 3, none⟩ (by simp) v).set ⟨w.heap.size, 0, none⟩ (by simp) v0).set ⟨w.heap.size, 1, none⟩ (by simp) v1).set ⟨w.heap.size, 2, none⟩ (by simp) v2).set ⟨w.heap.size, 3, none⟩ (by simp) v3)
    refine ⟨hr3.kp hk fun _ x hx hm => ?_, bel_kp HB3.out hk HB3.out.size fun k hk => ?_⟩
    · have h1 := hn3 x hx
      rw [size_new] at h1
      simp only [List.mem_cons, List.not_mem_nil, or_false] at hm
      omega
    · simp only [List.mem_cons, List.not_mem_nil, or_false] at hk
      omega
  have HN3 : Hid (∀ x, a3 = some x → w.heap.size ≤ x.block) := fun x hx => by
    have h1 := hn3 x hx
    rw [size_new] at h1
    omega
  have f3 := HK3.out.fz
  have c30 := HK3.out.cell 0
  have c31 := HK3.out.cell 1
  have c32 := HK3.out.cell 2
  have c33 := HK3.out.cell 3
  have f0 := HK0.out.fz
  have c0 := HK0.out.cell 0
  have c1 := HK0.out.cell 1
  have c2 := HK0.out.cell 2
  have c3' := HK0.out.cell 3
  clear hr3 hn3 hb3 hbx hk HK2 HP2 HB2 HB3 hgn
  go_wp2
  refine bodyPost_ret (results_cell_tmp' rfl _ _ w.heap.size _ _ _ _ rfl (((((HK0.out.other (q := w2.heap.size) (by omega) 3 _).set 0 _).set 1 _).set 2 _).set 3 _).obj Tryd.underlying41 rfl info_pim) rfl ?_
  obtain ⟨h1, h2⟩ := HFin.out _ _ _ _ _ _ rfl
  exact ⟨a3, c3, rfl, h1, HN3.out, h2⟩
end Go.Proofs.YtmiapccngeafkaaDoor

/- The contract of the program's All. -/
namespace Go.Proofs.YtmiapccngeafkaaDoor
open Go Go.RowKit

variable {w w' : World} {p b W H : Nat} {L : List Int}

theorem take_snoc {α : Type} {l : List α} {k : Nat} {y : α} (h : l[k]? = some y) : l.take (k + 1) = l.take k ++ [y] := by
  obtain ⟨hk, rfl⟩ := List.getElem?_eq_some_iff.1 h
  exact List.take_succ_eq_append_getElem hk
theorem foldl_step {W : Nat} {l : List Rc} {I : List Im} {V : List (List Int)} {j : Nat} {y : List Int} (h : V[j]? = some y) (L : List Int) : (V.take (j + 1)).foldl (ptc W l I) L = ptc W l I ((V.take j).foldl (ptc W l I) L) y := by
  rw [take_snoc h, List.foldl_append]
  rfl
theorem ara_okk (hW : 1 ≤ W ∧ W ≤ 48) (hH : 1 ≤ H ∧ H ≤ 48) : (ara W H).Ok := (ara_ck hW hH).ok
theorem ptc_some {W : Nat} {l : List Rc} {gs : List Gv} {L y : List Int} {g : Gv} (h : gf (nm5 1 y) gs = some g) : ptc W l (gs.map gcl) L y = drw W (nm5 2 y) (nm5 3 y) g.w g.h g.l l L := by
  rw [ptc, gf_imf, h]
  rfl
theorem ptc_none {W : Nat} {l : List Rc} {gs : List Gv} {L y : List Int} (h : gf (nm5 1 y) gs = none) : ptc W l (gs.map gcl) L y = L := by
  rw [ptc, gf_imf, h]
  rfl

set_option maxRecDepth 100000 in
set_option maxHeartbeats 4000000 in
theorem pall_any (h : Cv 56 w p b W H L) (v : Int) (hv : Col v) (a : Option Addr) (n c : Nat) (V : List (List Int)) (hr : RdM 6 w a n c V) (hVi : ∀ y ∈ V, ∀ z ∈ y, I64 z) (hrb : 0 < n → ∀ x, a = some x → x.block ≠ b)
    (a' : Option Addr) (n' c' : Nat) (gs : List Gv) (hg : RdG w a' n' c' gs) (hga : GAp [b] a' n' gs) (hgn : ∀ g ∈ gs, g.n ≤ 400) :
    Calls Tryd.prog 9 #[.pointer (some ⟨p, 0, none⟩), .int .u32 v, .slice a n c, .slice a' n' c'] w fun e w' => e = .returned (.tuple #[]) ∧ Cv 56 w' p b W H (pnc W v [ara W H] V (gs.map gcl) L) ∧ Kp [b] w w' := by
  have hs := hr.small
  have hs' := hg.small
  have HL := hid hr.len
  have hlt := h.lt
  have HWH := hid (And.intro h.hW h.hH)
  have HC := hid h
  have HR := hid hr
  have HG := hid hg
  have HGA := hid hga
  have HVI := hid hVi
  have HGN := hid hgn
  have HRB := hid hrb
  have HNO : Hid (∀ (wr : World) M, Cv 56 wr p b W H M → ∀ i z, wr.cell? ⟨b, i, none⟩ ≠ some (.int .i64 z)) := fun wr M hC i z hz => hC.no64 hz
  have CS := hid (csize_any h)
  obtain ⟨P, hP⟩ : ∃ P, P = pnc W v [ara W H] V (gs.map gcl) L := ⟨_, rfl⟩
  have HP : Hid (P = V.foldl (ptc W [ara W H] (gs.map gcl)) (fll W v [ara W H] L)) := hP
  rw [← hP]
  clear h hr hg hga hVi hgn hP hrb
  go_enter Tryd.func9, Tryd.ntmps9
  go_wp2_with fail
  refine CS.out.mono ?_
  rintro e w1 ⟨rfl, hb1⟩
  have HB1 := hid hb1
  clear hb1 CS
  go_wp2_with fail
  have hb2 := bel_new w1 (.cells #[.int .i64 0, .int .i64 0, .int .i64 (W : Nat), .int .i64 (H : Nat)] 24)
  have HB2 := hid (Below.on HB1.out hb2)
  have HE2 : Hid (RdC (w1.alloc (.cells #[.int .i64 0, .int .i64 0, .int .i64 (W : Nat), .int .i64 (H : Nat)] 24)) (some ⟨w1.heap.size, 0, none⟩) 1 1 [ara W H]) := rdc_lit w1 (ara W H) (ara_okk HWH.out.1 HWH.out.2)
  have hE : b ≠ w1.heap.size := by have := HB1.out.size; omega
  refine (cfill_any (HC.out.on HB2.out) v hv _ 1 1 [ara W H] HE2.out (by omega)).mono ?_
  rintro e w3 ⟨rfl, hC3, hk3⟩
  have HC3 := hid hC3
  have HK3 := hid ((kp_of_below HB2.out [b]).trans hk3 (fun k hk _ => hk))
  have HE3 := hid (HE2.out.kept hk3 (HNO.out _ _ (HC.out.on HB2.out)))
  have HBW : Hid (w1.heap.size < w3.heap.size) := by
    have h1 := hk3.size
    rw [size_new] at h1
    have : w1.heap.size < w3.heap.size := by omega
    exact this
  clear hC3 hk3 hb2 HB2 HE2 HB1
  obtain ⟨q, hq⟩ : ∃ q, w1.heap.size = q := ⟨_, rfl⟩
  rw [hq] at HE3 hE HBW ⊢
  clear hq
  go_wp2
  go_loopw [30] (fun i wr => ∃ j : Nat, i = .int .i64 j ∧ j ≤ n ∧ Cv 56 wr p b W H ((V.take j).foldl (ptc W [ara W H] (gs.map gcl)) (fll W v [ara W H] L)) ∧ Kp [b] w wr ∧ RdC wr (some ⟨q, 0, none⟩) 1 1 [ara W H]) (fun i _ => n - (numOf i).toNat)
  case atStart => exact ⟨0, rfl, by omega, HC3.out, HK3.out, HE3.out⟩
  case round =>
    obtain ⟨j, rfl, hj, hC, hK, hE4⟩ := hrel
    have HC4 := hid hC
    have HK4 := hid hK
    have HE4 := hid hE4
    clear hC hK hE4 HC3 HK3 HE3
    obtain ⟨M, hM⟩ : ∃ M, M = (V.take j).foldl (ptc W [ara W H] (gs.map gcl)) (fll W v [ara W H] L) := ⟨_, rfl⟩
    rw [← hM] at HC4
    have HM := hid hM
    clear hM
    by_cases hgo : j < n
    · have e1 : decide ((j : Int) < n) = true := decide_eq_true (by omega)
      have e2 : (j : Int) < n := by omega
      obtain ⟨b1, o1, z0, z1, z2, z3, z4, z5, rfl, hb1, hy, d0, d1, d2, d3, d4, d5⟩ := (HR.out.kp HK4.out (fun x hx hn => by simpa using HRB.out hn x hx)).el6 hgo
      have HY := hid hy
      have hi2 : I64 z2 := HVI.out _ (List.mem_of_getElem? hy) z2 (by simp)
      have hi3 : I64 z3 := HVI.out _ (List.mem_of_getElem? hy) z3 (by simp)
      have hA := bel_new wr (.cells #[.int .i64 z0, .int .i64 z1, .int .i64 z2, .int .i64 z3, .int .i64 z4, .int .i64 z5] 32)
      have HA := hid hA
      have HV := hid (bk_new wr #[.int .i64 z0, .int .i64 z1, .int .i64 z2, .int .i64 z3, .int .i64 z4, .int .i64 z5] 32)
      have HG4 := hid ((HG.out.kp HK4.out HGA.out).on hA)
      have CF := hid (pfirst_any a' n' c' gs z1 _ HG4.out)
      have HST : Hid ((V.take (j + 1)).foldl (ptc W [ara W H] (gs.map gcl)) (fll W v [ara W H] L) = ptc W [ara W H] (gs.map gcl) M [z0, z1, z2, z3, z4, z5]) := by rw [Hid, foldl_step hy, ← HM.out]
      clear hA hy
      cases hgf : gf z1 gs with
      | none =>
        rw [hgf] at CF
        have HN : Hid ((V.take (j + 1)).foldl (ptc W [ara W H] (gs.map gcl)) (fll W v [ara W H] L) = M) := by rw [Hid, HST.out, ptc_none (show gf (nm5 1 [z0, z1, z2, z3, z4, z5]) gs = none from hgf)]
        rw [show fdv none = .tuple #[.agg #[.int .i64 0, .int .i64 0, .int .i64 0, .slice none 0 0], .bool false] from rfl] at CF
        clear hgf
        go_wp2_with fail
        refine CF.out.mono ?_
        rintro e w5 ⟨rfl, hb5⟩
        have hB5 := Below.on (Below.on HA.out hb5) (bel_new w5 (.cells #[.int .i64 0, .int .i64 0, .int .i64 0, .slice none 0 0] 41))
        have HC5 := hid (HC4.out.on hB5)
        have HK5 := hid (HK4.out.trans (kp_of_below hB5 []) (by simp))
        have HE5 := hid (HE4.out.on hB5)
        rw [← HN.out] at HC5
        clear hb5 hB5 HC4 HK4 HE4
        go_wp2
        go_roundw
        case rel => exact ⟨j + 1, by go_num, by omega, HC5.out, HK5.out, HE5.out⟩
        case measure => simp [numOf]; omega
      | some g =>
        rw [hgf] at CF
        have hgm := gf_mem hgf
        have hgl := HGN.out g hgm
        have HN : Hid ((V.take (j + 1)).foldl (ptc W [ara W H] (gs.map gcl)) (fll W v [ara W H] L) = drw W z2 z3 g.w g.h g.l [ara W H] M) := by
          rw [Hid, HST.out, ptc_some (show gf (nm5 1 [z0, z1, z2, z3, z4, z5]) gs = some g from hgf)]
          rfl
        have HGO := hid (HG4.out.ok g hgm)
        have hgap := HGA.out.px g hgm
        obtain ⟨g0, g1, g2, ga, gn, gc, gl⟩ := g
        dsimp only at hgl HN hgap
        rw [show fdv (some ⟨g0, g1, g2, ga, gn, gc, gl⟩) = .tuple #[.agg #[.int .i64 g0, .int .i64 g1, .int .i64 g2, .slice ga gn gc], .bool true] from rfl] at CF
        clear hgf hgm
        go_wp2_with fail
        refine CF.out.mono ?_
        rintro e w5 ⟨rfl, hb5⟩
        have hX := bel_new w5 (.cells #[.int .i64 g0, .int .i64 g1, .int .i64 g2, .slice ga gn gc] 41)
        have hI := bk_new w5 #[.int .i64 g0, .int .i64 g1, .int .i64 g2, .slice ga gn gc] 41
        have hB5 := Below.on (Below.on HA.out hb5) hX
        have hV5 := (HV.out.on hb5).on hX
        have HC5 := hid (HC4.out.on hB5)
        have HK5 := hid (HK4.out.trans (kp_of_below hB5 []) (by simp))
        have HE5 := hid (HE4.out.on hB5)
        have hp5 := (HGO.out.px.on hb5).on hX
        have q2 := hV5.cell 2
        have q3 := hV5.cell 3
        have i1 := hI.cell 1
        have i2 := hI.cell 2
        have i3 := hI.cell 3
        have CD := hid (cdraw_any HC5.out z2 z3 g1 g2 hi2 hi3 HGO.out.kw HGO.out.kh ga gn gc gl hp5 hgl (fun hn x hx => by simpa using hgap hn x hx) (some ⟨q, 0, none⟩) 1 1 [ara W H] HE5.out (by omega))
        rw [← HN.out] at CD
        clear hb5 hX hI hB5 hV5 hp5 hgap HC4 HK4 HE4 HST HN HV HA CF
        go_wp2_with fail
        refine CD.out.mono ?_
        rintro e w6 ⟨rfl, hC6, hk6⟩
        have HC6 := hid hC6
        have HK6 := hid (HK5.out.trans hk6 (fun k hk _ => hk))
        have HE6 := hid (HE5.out.kept hk6 (HNO.out _ _ HC5.out))
        clear hC6 hk6 HC5 HK5 HE5 CD
        go_wp2
        go_roundw
        case rel => exact ⟨j + 1, by go_num, by omega, HC6.out, HK6.out, HE6.out⟩
        case measure => simp [numOf]; omega
    · have e1 : decide ((j : Int) < n) = false := decide_eq_false (by omega)
      have HF : Hid (M = P) := by
        rw [Hid, HP.out, HM.out, List.take_of_length_le (by rw [HL.out]; omega)]
      rw [HF.out] at HC4
      go_wp2
      go_end0
      exact ⟨rfl, HC4.out, HK4.out⟩
end Go.Proofs.YtmiapccngeafkaaDoor

/- Regions that draw their order and end with stores: a condition that is held up to ONE operation (the gate), which waits for all that read. No program. -/
namespace Go.Proofs.YtmiapccngeafkaaDoor
open Go

section
variable {P : Program} {ops : Array Oper} {Q : Exit → Act → World → Prop} {md : Region.Mode} {S : World → Prop}

/-- Whatever order is picked from here on; S holds behind every operation that is carried out as long as g has not come up. -/
def wpAnyG (P : Program) (md : Region.Mode) (ops : Array Oper) (Q : Exit → Act → World → Prop) (S : World → Prop) (g : Nat) : Nat → Array Bool → Act → World → Prop
  | 0, listed, a, w => Region.ready md ops listed = [] ∧ Q .normal a w
  | fuel + 1, listed, a, w =>
    (Region.ready md ops listed = [] → Q .normal a w) ∧
    ∀ i ∈ Region.ready md ops listed, wpOp P ops Q i (fun a' w' => ((listed.setIfInBounds i true).getD g true = false → S w') ∧ wpAnyG P md ops Q S g fuel (listed.setIfInBounds i true) a' w') a w

theorem wpAny_of_gate {g : Nat} : ∀ (fuel : Nat) (listed : Array Bool) (a : Act) (w : World), wpAnyG P md ops Q S g fuel listed a w → wpAny P md ops Q fuel listed a w
  | 0, _, _, _, h => h
  | fuel + 1, _, _, _, h => ⟨h.1, fun i hi => wpOp_mono (fun a' w' h' => wpAny_of_gate fuel _ a' w' h'.2) (h.2 i hi)⟩

/-- g waits for i, through others too. -/
def waits (md : Region.Mode) (ops : Array Oper) : Nat → Nat → Nat → Bool
  | 0, _, _ => false
  | k + 1, g, i => match ops[g]? with
    | some o => o.after.any fun e => Region.binds md e && ((e.on == i) || waits md ops k e.on i)
    | none => false
/-- What has come up waited for nothing that has not. -/
def closedB (md : Region.Mode) (ops : Array Oper) (listed : Array Bool) : Bool := (List.range ops.size).all fun j => !listed.getD j false || match ops[j]? with
  | some o => o.after.all fun e => !Region.binds md e || listed.getD e.on false
  | none => true
def Closed (md : Region.Mode) (ops : Array Oper) (listed : Array Bool) : Prop := ∀ (j : Nat) o, ops[j]? = some o → listed.getD j false = true → ∀ e ∈ o.after, Region.binds md e = true → listed.getD e.on false = true
theorem closed_of {listed : Array Bool} (h : closedB md ops listed = true) : Closed md ops listed := fun j o ho hl e he hb => by
  have hj : j < ops.size := (Array.getElem?_eq_some_iff.1 ho).1
  have h1 := List.all_eq_true.1 h j (List.mem_range.2 hj)
  rw [hl, ho] at h1
  simp only [Bool.not_true, Bool.false_or] at h1
  have h2 := Array.all_eq_true'.1 h1 e he
  rw [hb] at h2
  simpa using h2
theorem closed_set {listed : Array Bool} {j : Nat} (h : Closed md ops listed) (hj : j ∈ Region.ready md ops listed) : Closed md ops (listed.setIfInBounds j true) := fun k o ho hl e he hb => by
  obtain ⟨_, oj, hoj, hall⟩ := mem_ready.1 hj
  refine getD_set_true ?_
  by_cases hjk : j = k
  · subst hjk
    rw [hoj] at ho
    cases ho
    exact hall e he hb
  · rw [getD_set_ne false hjk] at hl
    exact h k o ho hl e he hb
theorem waits_deps {i : Nat} {listed : Array Bool} (hc : Closed md ops listed) (hi : listed.getD i false = false) : ∀ (k g : Nat), waits md ops k g i = true → ∀ o, ops[g]? = some o → ¬ ∀ e ∈ o.after, Region.binds md e = true → listed.getD e.on false = true
  | 0, _, hw, _, _ => by simp [waits] at hw
  | k + 1, g, hw, o, ho => fun hall => by
    rw [waits, ho] at hw
    obtain ⟨e, he, hb⟩ := Array.any_eq_true'.1 hw
    simp only [Bool.and_eq_true, Bool.or_eq_true, beq_iff_eq] at hb
    have h1 := hall e he hb.1
    rcases hb.2 with h2 | h2
    · rw [h2, hi] at h1
      cases h1
    · cases hoe : ops[e.on]? with
      | none =>
        cases k with
        | zero => simp [waits] at h2
        | succ k => rw [waits, hoe] at h2; cases h2
      | some o' => exact waits_deps hc hi k e.on h2 o' hoe (fun e' he' hb' => hc e.on o' hoe h1 e' he' hb')
theorem waits_not {k g i : Nat} {listed : Array Bool} (hc : Closed md ops listed) (hw : waits md ops k g i = true) (hr : i ∈ Region.ready md ops listed) : g ∉ Region.ready md ops listed := fun hg => by
  obtain ⟨h0, oi, hoi, _⟩ := mem_ready.1 hr
  obtain ⟨_, o, ho, hall⟩ := mem_ready.1 hg
  have hi : listed.getD i false = false := by
    rcases Nat.lt_or_ge i listed.size with h' | h'
    · simp [h'] at h0 ⊢
      exact h0
    · simp [Array.getElem?_eq_none h']
  exact waits_deps hc hi k g hw o ho hall

theorem wpAnyG_first {n i g : Nat} {oi : Oper} {v : Value} (hi : ops[i]? = some oi) (hgi : waits md ops n g i = true) (hsel : ∀ (j : Nat) (o : Oper) cs b, ops[j]? = some o → o.op ≠ .select cs b)
    (hQ : ∀ c a w, Q (.panic c) (a.put oi.dst v) w → Q (.panic c) a w) :
    ∀ (fuel : Nat) (listed : Array Bool) (a : Act) (w : World),
      (∀ j oj, ops[j]? = some oj → j ≠ i → listed.getD j true = false → (∀ e ∈ oj.after, Region.binds md e = true → e.on ≠ i) → oi.apart ops oj = true) →
      i ∈ Region.ready md ops listed → listed.getD g true = false → Closed md ops listed → YieldsIf P ops S oi v a → S w →
      wpAnyG P md ops Q S g fuel (listed.setIfInBounds i true) (a.put oi.dst v) w → wpAnyG P md ops Q S g (fuel + 1) listed a w := by
  intro fuel
  induction fuel with
  | zero =>
    intro listed a w _ hr _ _ hy hS H
    refine ⟨fun h => (by rw [h] at hr; cases hr), fun j hj => ?_⟩
    by_cases hji : j = i
    · subst hji; exact hy.wpOp hi hS ⟨fun _ => hS, H⟩
    · have := ready_mono hj hji
      rw [H.1] at this
      cases this
  | succ fuel ih =>
    intro listed a w hfree hr hlg hcl hy hS H
    refine ⟨fun h => (by rw [h] at hr; cases hr), fun j hj => ?_⟩
    by_cases hji : j = i
    · subst hji; exact hy.wpOp hi hS ⟨fun _ => hS, H⟩
    · have h1 := H.2 j (ready_mono hj hji)
      have hjg : j ≠ g := fun e => waits_not hcl hgi hr (by rw [← e]; exact hj)
      have hig : i ≠ g := fun e => waits_not hcl hgi hr (by rw [← e]; exact hr)
      have hl1 : ((listed.setIfInBounds i true).setIfInBounds j true).getD g true = false := by rw [getD_set_ne true hjg, getD_set_ne true hig]; exact hlg
      have hl2 : (listed.setIfInBounds j true).getD g true = false := by rw [getD_set_ne true hjg]; exact hlg
      obtain ⟨hjun, oj, hoj, hall⟩ := mem_ready.1 hj
      have hnot : ∀ e ∈ oj.after, Region.binds md e = true → e.on ≠ i := fun e he hb heq => by
        have h1 := hall e he hb
        have h0 := (mem_ready.1 hr).1
        rw [heq] at h1
        rcases Nat.lt_or_ge i listed.size with h' | h'
        · simp [h'] at h0 h1; rw [h0] at h1; cases h1
        · simp [Array.getElem?_eq_none h'] at h1
      have h2 := wpOp_putIf hoj (hfree j oj hoj hji hjun hnot) (fun cs b => hsel i oi cs b hi) (fun cs b => hsel j oj cs b hoj) hQ hy h1
      have hfree' : ∀ k ok, ops[k]? = some ok → k ≠ i → (listed.setIfInBounds j true).getD k true = false →
          (∀ e ∈ ok.after, Region.binds md e = true → e.on ≠ i) → oi.apart ops ok = true := fun k ok hk hki hun hno => by
        refine hfree k ok hk hki ?_ hno
        by_cases hjk : j = k
        · subst hjk; exact hjun
        · rw [getD_set_ne true hjk] at hun; exact hun
      refine wpOp_mono (fun a' w' h3 => ⟨fun _ => h3.2.1 hl1, ih (listed.setIfInBounds j true) a' w' hfree' (ready_mono hr (Ne.symm hji)) hl2 (closed_set hcl hj) h3.1 (h3.2.1 hl1) ?_⟩) h2
      rw [Array.setIfInBounds_comm _ _ hji]
      exact h3.2.2

/-- Take number i first: the gate waits for it. -/
theorem wpAnyG_take {i g : Nat} {oi : Oper} {v : Value} {fuel : Nat} {listed : Array Bool} {a : Act} {w : World} (hi : ops[i]? = some oi)
    (hs : Region.noSelect ops = true) (hf : Region.free md ops listed i = true) (hr : (Region.ready md ops listed).contains i = true) (hg : (waits md ops 6 g i && !listed.getD g true && closedB md ops listed) = true)
    (hQ : ∀ c a w, Q (.panic c) (a.put oi.dst v) w → Q (.panic c) a w) (hy : YieldsIf P ops S oi v a) (hS : S w)
    (h : wpAnyG P md ops Q S g fuel (listed.setIfInBounds i true) (a.put oi.dst v) w) : wpAnyG P md ops Q S g (fuel + 1) listed a w := by
  simp only [Bool.and_eq_true, Bool.not_eq_true'] at hg
  exact wpAnyG_first hi hg.1.1 (Region.noSelect_spec hs) hQ fuel listed a w (Region.free_spec hi hf) (by simpa using hr) hg.1.2 (closed_of hg.2) hy hS h

/-- Take number i first, though the gate does not wait for it: it yields in whatever world. -/
theorem wpAnyG_firstFree {i g : Nat} {oi : Oper} {v : Value} (hi : ops[i]? = some oi) (hig : i ≠ g) (hsel : ∀ (j : Nat) (o : Oper) cs b, ops[j]? = some o → o.op ≠ .select cs b)
    (hQ : ∀ c a w, Q (.panic c) (a.put oi.dst v) w → Q (.panic c) a w) :
    ∀ (fuel : Nat) (listed : Array Bool) (a : Act) (w : World),
      (∀ j oj, ops[j]? = some oj → j ≠ i → listed.getD j true = false → (∀ e ∈ oj.after, Region.binds md e = true → e.on ≠ i) → oi.apart ops oj = true) →
      i ∈ Region.ready md ops listed → YieldsIf P ops (fun _ => True) oi v a → (listed.getD g true = false → S w) →
      wpAnyG P md ops Q S g fuel (listed.setIfInBounds i true) (a.put oi.dst v) w → wpAnyG P md ops Q S g (fuel + 1) listed a w := by
  intro fuel
  induction fuel with
  | zero =>
    intro listed a w _ hr hy hS H
    refine ⟨fun h => (by rw [h] at hr; cases hr), fun j hj => ?_⟩
    by_cases hji : j = i
    · subst hji
      exact hy.wpOp hi trivial ⟨fun hl => hS (by rw [getD_set_ne true hig] at hl; exact hl), H⟩
    · have := ready_mono hj hji
      rw [H.1] at this
      cases this
  | succ fuel ih =>
    intro listed a w hfree hr hy hS H
    refine ⟨fun h => (by rw [h] at hr; cases hr), fun j hj => ?_⟩
    by_cases hji : j = i
    · subst hji
      exact hy.wpOp hi trivial ⟨fun hl => hS (by rw [getD_set_ne true hig] at hl; exact hl), H⟩
    · have h1 := H.2 j (ready_mono hj hji)
      obtain ⟨hjun, oj, hoj, hall⟩ := mem_ready.1 hj
      have hnot : ∀ e ∈ oj.after, Region.binds md e = true → e.on ≠ i := fun e he hb heq => by
        have h1 := hall e he hb
        have h0 := (mem_ready.1 hr).1
        rw [heq] at h1
        rcases Nat.lt_or_ge i listed.size with h' | h'
        · simp [h'] at h0 h1; rw [h0] at h1; cases h1
        · simp [Array.getElem?_eq_none h'] at h1
      have h2 := wpOp_putIf hoj (hfree j oj hoj hji hjun hnot) (fun cs b => hsel i oi cs b hi) (fun cs b => hsel j oj cs b hoj) hQ hy h1
      have hfree' : ∀ k ok, ops[k]? = some ok → k ≠ i → (listed.setIfInBounds j true).getD k true = false →
          (∀ e ∈ ok.after, Region.binds md e = true → e.on ≠ i) → oi.apart ops ok = true := fun k ok hk hki hun hno => by
        refine hfree k ok hk hki ?_ hno
        by_cases hjk : j = k
        · subst hjk; exact hjun
        · rw [getD_set_ne true hjk] at hun; exact hun
      have hl1 : (listed.setIfInBounds j true).getD g true = false → ((listed.setIfInBounds i true).setIfInBounds j true).getD g true = false := fun hl => by
        rw [Array.setIfInBounds_comm _ _ (Ne.symm hji), getD_set_ne true hig]
        exact hl
      refine wpOp_mono (fun a' w' h3 => ⟨fun hl => h3.2.1 (hl1 hl), ih (listed.setIfInBounds j true) a' w' hfree' (ready_mono hr (Ne.symm hji)) h3.1 (fun hl => h3.2.1 (hl1 hl)) ?_⟩) h2
      rw [Array.setIfInBounds_comm _ _ hji]
      exact h3.2.2
theorem wpAnyG_takeFree {i g : Nat} {oi : Oper} {v : Value} {fuel : Nat} {listed : Array Bool} {a : Act} {w : World} (hi : ops[i]? = some oi)
    (hs : Region.noSelect ops = true) (hf : Region.free md ops listed i = true) (hr : (Region.ready md ops listed).contains i = true) (hg : (!(i == g)) = true)
    (hQ : ∀ c a w, Q (.panic c) (a.put oi.dst v) w → Q (.panic c) a w) (hy : YieldsIf P ops (fun _ => True) oi v a) (hS : S w)
    (h : wpAnyG P md ops Q S g fuel (listed.setIfInBounds i true) (a.put oi.dst v) w) : wpAnyG P md ops Q S g (fuel + 1) listed a w :=
  wpAnyG_firstFree hi (by simpa using hg) (Region.noSelect_spec hs) hQ fuel listed a w (Region.free_spec hi hf) (by simpa using hr) hy (fun _ => hS) h

/-- Each of the operations rs comes up next; behind it S holds. -/
def AllReadyG (P : Program) (md : Region.Mode) (ops : Array Oper) (Q : Exit → Act → World → Prop) (S : World → Prop) (g fuel : Nat) (listed : Array Bool) (a : Act) (w : World) (rs : List Nat) : Prop :=
  ∀ i ∈ rs, wpOp P ops Q i (fun a' w' => S w' ∧ wpAnyG P md ops Q S g fuel (listed.setIfInBounds i true) a' w') a w
theorem AllReadyG.nil {g fuel : Nat} {listed : Array Bool} {a : Act} {w : World} : AllReadyG P md ops Q S g fuel listed a w [] := fun _ h => by cases h
theorem AllReadyG.cons {g fuel : Nat} {listed : Array Bool} {a : Act} {w : World} {i : Nat} {o : Oper} {rs : List Nat} (ho : ops[i]? = some o)
    (h : ∀ K' : Act → World → Prop, Shut (∀ a w, S w → (S w → wpAnyG P md ops Q S g fuel (listed.setIfInBounds i true) a w) → K' a w) → if Region.wanted o (yielded ops a.tmps) = true then Oper.wp P o a w K' Q else K' (a.put o.dst undef) w)
    (hs : AllReadyG P md ops Q S g fuel listed a w rs) : AllReadyG P md ops Q S g fuel listed a w (i :: rs) := fun j hj => by
  rcases List.mem_cons.1 hj with rfl | hj
  · exact wpOp_step ho (fun K' hK => h K' (fun a w hS hW => hK a w ⟨hS, hW hS⟩))
  · exact hs j hj
theorem wpAnyG_ready {g : Nat} {rs : List Nat} {fuel : Nat} {listed : Array Bool} {a : Act} {w : World} (hr : Region.ready md ops listed = rs) (hne : rs ≠ [])
    (h : AllReadyG P md ops Q S g fuel listed a w rs) : wpAnyG P md ops Q S g (fuel + 1) listed a w :=
  ⟨fun h0 => absurd (hr ▸ h0) hne, fun i hi => wpOp_mono (fun _ _ h' => ⟨fun _ => h'.1, h'.2⟩) (h i (hr ▸ hi))⟩

/-- Behind the gate nothing is held any more. -/
theorem wpAnyG_of_free {g : Nat} : ∀ {fuel : Nat} {listed : Array Bool} {a : Act} {w : World}, listed.getD g true = true → wpAnyH P md ops Q (fun _ => True) fuel listed a w → wpAnyG P md ops Q S g fuel listed a w
  | 0, _, _, _, _, h => h
  | fuel + 1, listed, _, _, hl, h => ⟨h.1, fun i hi => wpOp_mono (fun a' w' h' => by
      have hl' : (listed.setIfInBounds i true).getD g true = true := by
        by_cases hig : i = g
        · subst hig
          rcases Nat.lt_or_ge i listed.size with h' | h' <;> simp [h']
        · rw [getD_set_ne true hig]; exact hl
      exact ⟨fun h0 => (by rw [hl'] at h0; cases h0), wpAnyG_of_free hl' h'.2⟩) (h.2 i hi)⟩
/-- The gate itself, alone ready, and yielding in whatever world. -/
theorem wpAnyG_gate {g : Nat} {og : Oper} {v : Value} {fuel : Nat} {listed : Array Bool} {a : Act} {w : World} (hi : ops[g]? = some og) (hr : Region.ready md ops listed = [g]) (hy : YieldsIf P ops (fun _ => True) og v a)
    (h : wpAnyH P md ops Q (fun _ => True) fuel (listed.setIfInBounds g true) (a.put og.dst v) w) : wpAnyG P md ops Q S g (fuel + 1) listed a w := by
  have hl : (listed.setIfInBounds g true).getD g true = true := by rcases Nat.lt_or_ge g listed.size with h' | h' <;> simp [h']
  refine ⟨fun h0 => (by rw [hr] at h0; cases h0), fun i hi' => ?_⟩
  rw [hr] at hi'
  simp only [List.mem_cons, List.not_mem_nil, or_false] at hi'
  subst hi'
  exact hy.wpOp hi trivial ⟨fun h0 => (by rw [hl] at h0; cases h0), wpAnyG_of_free hl h⟩
/-- The gate itself, alone ready: a store, or whatever. -/
theorem wpAnyG_gateOp {g : Nat} {og : Oper} {fuel : Nat} {listed : Array Bool} {a : Act} {w : World} (ho : ops[g]? = some og) (hr : Region.ready md ops listed = [g])
    (h : ∀ K' : Act → World → Prop, Shut (∀ a w, True → (True → wpAnyH P md ops Q (fun _ => True) fuel (listed.setIfInBounds g true) a w) → K' a w) → if Region.wanted og (yielded ops a.tmps) = true then Oper.wp P og a w K' Q else K' (a.put og.dst undef) w) :
    wpAnyG P md ops Q S g (fuel + 1) listed a w := by
  have hl : (listed.setIfInBounds g true).getD g true = true := by rcases Nat.lt_or_ge g listed.size with h' | h' <;> simp [h']
  refine ⟨fun h0 => (by rw [hr] at h0; cases h0), fun i hi' => ?_⟩
  rw [hr] at hi'
  simp only [List.mem_cons, List.not_mem_nil, or_false] at hi'
  subst hi'
  exact wpOp_step ho (fun K' hK => h K' (fun a w _ hW => hK a w ⟨fun h0 => (by rw [hl] at h0; cases h0), wpAnyG_of_free hl (hW trivial)⟩))
theorem wp_region_gate_drew {id g : Nat} {a : Act} {w : World} (hm : P.follows .mixedOrders = true) (hS : S w.drew)
    (h : S w.drew → wpAnyG P .any ops Q S g ops.size (Array.replicate ops.size false) a w.drew) : (Code.region id ops true).wp P Q a w :=
  wp_region_any hm (wpAny_of_gate _ _ _ _ (h hS))
theorem wpAnyG_mono {g : Nat} {S' : World → Prop} (h : ∀ x, S' x → S x) : ∀ {fuel : Nat} {listed : Array Bool} {a : Act} {w : World}, wpAnyG P md ops Q S' g fuel listed a w → wpAnyG P md ops Q S g fuel listed a w
  | 0, _, _, _, hh => hh
  | _ + 1, _, _, _, hh => ⟨hh.1, fun i hi => wpOp_mono (fun _ _ q => ⟨fun h0 => h _ (q.1 h0), wpAnyG_mono h q.2⟩) (hh.2 i hi)⟩
end

/-- A region by a name for its operations. -/
theorem swap_ops {P : Program} {id : Nat} {ops ops' : Array Oper} {b : Bool} {Q : Exit → Act → World → Prop} {a : Act} {w : World} (h : ops = ops') (hw : (Code.region id ops' b).wp P Q a w) : (Code.region id ops b).wp P Q a w := by
  rw [h]
  exact hw

section
variable {P : Program} {ops : Array Oper} {Q : Exit → Act → World → Prop} {S : World → Prop}
/-- A region in the order of its text, by the operations' numbers. -/
theorem wp_region_seq {id : Nat} {l : List Nat} {a : Act} {w : World} (hl : List.range ops.size = l) (h : wpOps P ops Q l a w) : (Code.region id ops false).wp P Q a w := wp_region (by rw [hl]; exact h)
theorem wpOps_val {i : Nat} {oi : Oper} {v : Value} {rest : List Nat} {a : Act} {w : World} (hi : ops[i]? = some oi) (hy : YieldsIf P ops S oi v a) (hS : S w) (h : wpOps P ops Q rest (a.put oi.dst v) w) : wpOps P ops Q (i :: rest) a w := by
  rw [wpOps_cons]
  exact hy.wpOp hi hS h
theorem wpOps_end {a : Act} {w : World} (h : Q .normal a w) : wpOps P ops Q [] a w := h
end

/-- An append onto a row of the call's own, inside a drawing region. -/
theorem step_appG {P : Program} {ops : Array Oper} {o : Oper} {a : Act} {w : World} {K : Act → World → Prop} {Q : Exit → Act → World → Prop} {E : Prop}
    (hwt : Region.wanted o (yielded ops a.tmps) = true) (s x : Operand) (t tx : TypeId) (hop : o.op = .call { callee := .builtin .append, args := #[s, x], argTypes := #[t, tx] })
    (base : Nat) (e : TypeId) (i : TypeInfo) (z : Value) (size bytes : Nat) (ht : P.underlying t = some (.slice e)) (hi : P.info? e = some i) (hz : i.zero = some z)
    (hsize : i.size = size) (hby : i.bytes = bytes) (hzs : z.cells.size = size)
    (v : Value) (n : Nat) (xs : List Value) (hs : a.eval s = v) (hown : w.ownsRow base e size v n xs)
    (xv : Value) (m : Nat) (news : List Value) (hx : a.eval x = xv) (hsrc : Src P size tx xv m news w)
    (h63 : n + m ≤ maxLen) (hbytes : ∀ old, old < n + m → Builtin.nextslicecap (n + m) old * bytes ≤ 281474976710656) (hbase : base ≤ w.heap.size)
    (h : ∀ v' w', w'.ownsRow base e size v' (n + m) (xs ++ news) → w.grownBy w' v.ownBlock → K (a.put o.dst v') w') :
    if Region.wanted o (yielded ops a.tmps) = true then Oper.wp P o a w K Q else E := by
  rw [if_pos hwt]
  obtain ⟨v', w', hr, h2, h3⟩ := run_append_own_src (P := P) w base t tx o.type e i z size bytes ht hi hz hsize hby hzs v n xs hown xv m news hsrc h63 hbytes hbase
  unfold Oper.wp
  simp [execOp, hop, resolve, invoke, builtin, hs, hx, hr, Result.andThen]
  exact h v' w' h2 h3
end Go.Proofs.YtmiapccngeafkaaDoor

/- The document's Find, Everywhere, Part. Written by paint/mk_pte.py. -/
namespace Go.Proofs.YtmiapccngeafkaaDoor
open Go Go.RowKit



variable {w w' : World} {p b W H : Nat} {L : List Int}

end Go.Proofs.YtmiapccngeafkaaDoor

/- Literals of one; what law 23's awake answers. -/
namespace Go.Proofs.YtmiapccngeafkaaDoor
open Go Go.RowKit

variable {w U : World} {p q T : Nat}

theorem rdm_one {z0 z1 z2 z3 z4 z5 : Int} (h : Bk U p T #[.int .i64 z0, .int .i64 z1, .int .i64 z2, .int .i64 z3, .int .i64 z4, .int .i64 z5]) : RdM 6 U (some ⟨p, 0, none⟩) 1 1 [[z0, z1, z2, z3, z4, z5]] := by
  refine ⟨rfl, Nat.le_refl _, by decide, (fun h => by cases h), fun _ => ⟨p, 0, rfl, h.lt, fun j y hj i z hz => ?_⟩, fun y hy => ?_⟩
  · cases j with
    | succ j => simp at hj
    | zero =>
      simp only [List.getElem?_cons_zero, Option.some.injEq] at hj
      subst hj
      rw [Nat.zero_mul, Nat.zero_add, Nat.zero_add, h.cell]
      match i, hz with
      | 0, hz => cases hz; rfl
      | 1, hz => cases hz; rfl
      | 2, hz => cases hz; rfl
      | 3, hz => cases hz; rfl
      | 4, hz => cases hz; rfl
      | 5, hz => cases hz; rfl
      | i + 6, hz => simp at hz
  · rw [List.mem_singleton.1 hy]
    rfl
theorem rdw_one {z : Int} (h : Bk U p T #[.int .u32 z]) (hz : Col z) : RdI .u32 U (some ⟨p, 0, none⟩) 1 1 [z] :=
  ⟨rfl, Nat.le_refl _, by decide, (fun h => by cases h), fun x hx j hj => by
    cases hx
    obtain rfl : j = 0 := by omega
    rw [Go.WideShapes.add_plain, Nat.zero_add, h.cell]
    rfl, fun y hy => by
    rw [List.mem_singleton.1 hy]
    exact wf_col hz⟩
theorem rdg_one {g : Gv} (h : Bk U p T (gvv g)) (hg : GOk U g) : RdG U (some ⟨p, 0, none⟩) 1 1 [g] :=
  ⟨rfl, Nat.le_refl _, by decide, (fun h => by cases h), fun _ => ⟨p, 0, rfl, h.lt, fun j x hj i v hv => by
    cases j with
    | succ j => simp at hj
    | zero =>
      simp only [List.getElem?_cons_zero, Option.some.injEq] at hj
      subst hj
      rw [Nat.zero_mul, Nat.zero_add, Nat.zero_add, h.cell]
      exact hv⟩, fun x hx => by
    rw [List.mem_singleton.1 hx]
    exact hg⟩

theorem infoV23 : (Tryd.prog.info? 32).map (fun i => (i.zero, i.size, i.bytes)) = some (some (.agg #[.int .i64 0, .int .i64 0, .int .i64 0, .int .i64 0, .int .i64 0, .int .i64 0]), 6, 48) := by kernel_rfl

end Go.Proofs.YtmiapccngeafkaaDoor

/- Repaint: the contract of the program's Part. -/
namespace Go.Proofs.YtmiapccngeafkaaDoor
open Go Go.RowKit

variable {w w' : World} {p b W H : Nat} {L : List Int}

set_option maxRecDepth 100000 in
set_option maxHeartbeats 4000000 in
theorem qpart_any (h : Cv 56 w p b W H L) (v : Int) (hv : Col v) (a : Option Addr) (n c : Nat) (V : List (List Int)) (hr : RdM 6 w a n c V) (hVi : ∀ y ∈ V, ∀ z ∈ y, I64 z) (hrb : 0 < n → ∀ x, a = some x → x.block ≠ b)
    (a' : Option Addr) (n' c' : Nat) (gs : List Gv) (hg : RdG w a' n' c' gs) (hga : GAp [b] a' n' gs) (hgn : ∀ g ∈ gs, g.n ≤ 400) (al : Option Addr) (nl cl : Nat) (l : List Rc) (hl : RdC w al nl cl l) (hnl : nl ≤ 40) :
    Calls Tryd.prog 11 #[.pointer (some ⟨p, 0, none⟩), .int .u32 v, .slice a n c, .slice a' n' c', .slice al nl cl] w fun e w' => e = .returned (.tuple #[]) ∧ Cv 56 w' p b W H (pnc W v l V (gs.map gcl) L) ∧ Kp [b] w w' := by
  have hs := hr.small
  have hs' := hg.small
  have HL := hid hr.len
  have hlt := h.lt
  have HR := hid hr
  have HG := hid hg
  have HGA := hid hga
  have HVI := hid hVi
  have HGN := hid hgn
  have HRB := hid hrb
  have HNO : Hid (∀ (wr : World) M, Cv 56 wr p b W H M → ∀ i z, wr.cell? ⟨b, i, none⟩ ≠ some (.int .i64 z)) := fun wr M hC i z hz => hC.no64 hz
  have CFI := hid (cfill_any h v hv al nl cl l hl hnl)
  have HLK : Hid (∀ u, Kp [b] w u → RdC u al nl cl l) := fun u hk => hl.kept hk (HNO.out w L h)
  obtain ⟨P, hP⟩ : ∃ P, P = pnc W v l V (gs.map gcl) L := ⟨_, rfl⟩
  have HP : Hid (P = V.foldl (ptc W l (gs.map gcl)) (fll W v l L)) := hP
  rw [← hP]
  clear h hr hg hga hVi hgn hP hrb hl
  go_enter Tryd.func11, Tryd.ntmps11
  go_wp2_with fail
  refine CFI.out.mono ?_
  rintro e w3 ⟨rfl, hC3, hk3⟩
  have HC3 := hid hC3
  have HK3 := hid hk3
  clear hC3 hk3 CFI
  go_wp2
  go_loopw [20] (fun i wr => ∃ j : Nat, i = .int .i64 j ∧ j ≤ n ∧ Cv 56 wr p b W H ((V.take j).foldl (ptc W l (gs.map gcl)) (fll W v l L)) ∧ Kp [b] w wr) (fun i _ => n - (numOf i).toNat)
  case atStart => exact ⟨0, rfl, by omega, HC3.out, HK3.out⟩
  case round =>
    obtain ⟨j, rfl, hj, hC, hK⟩ := hrel
    have HC4 := hid hC
    have HK4 := hid hK
    have hbw := hC.lt
    clear hC hK HC3 HK3
    obtain ⟨M, hM⟩ : ∃ M, M = (V.take j).foldl (ptc W l (gs.map gcl)) (fll W v l L) := ⟨_, rfl⟩
    rw [← hM] at HC4
    have HM := hid hM
    clear hM
    by_cases hgo : j < n
    · have e1 : decide ((j : Int) < n) = true := decide_eq_true (by omega)
      have e2 : (j : Int) < n := by omega
      obtain ⟨b1, o1, z0, z1, z2, z3, z4, z5, rfl, hb1, hy, d0, d1, d2, d3, d4, d5⟩ := (HR.out.kp HK4.out (fun x hx hn => by simpa using HRB.out hn x hx)).el6 hgo
      have HY := hid hy
      have hi2 : I64 z2 := HVI.out _ (List.mem_of_getElem? hy) z2 (by simp)
      have hi3 : I64 z3 := HVI.out _ (List.mem_of_getElem? hy) z3 (by simp)
      have hA := bel_new wr (.cells #[.int .i64 z0, .int .i64 z1, .int .i64 z2, .int .i64 z3, .int .i64 z4, .int .i64 z5] 32)
      have HA := hid hA
      have HV := hid (bk_new wr #[.int .i64 z0, .int .i64 z1, .int .i64 z2, .int .i64 z3, .int .i64 z4, .int .i64 z5] 32)
      have HG4 := hid ((HG.out.kp HK4.out HGA.out).on hA)
      have CF := hid (pfind_any a' n' c' gs z1 _ HG4.out (fun g hg => by have := HGN.out g hg; omega))
      have HST : Hid ((V.take (j + 1)).foldl (ptc W l (gs.map gcl)) (fll W v l L) = ptc W l (gs.map gcl) M [z0, z1, z2, z3, z4, z5]) := by rw [Hid, foldl_step hy, ← HM.out]
      have hsz : (wr.alloc (.cells #[.int .i64 z0, .int .i64 z1, .int .i64 z2, .int .i64 z3, .int .i64 z4, .int .i64 z5] 32)).heap.size = wr.heap.size + 1 := size_new _ _
      have HSZ := hid hsz
      clear hA hy hsz
      cases hgf : gf z1 gs with
      | none =>
        rw [hgf] at CF
        have HN : Hid ((V.take (j + 1)).foldl (ptc W l (gs.map gcl)) (fll W v l L) = M) := by rw [Hid, HST.out, ptc_none (show gf (nm5 1 [z0, z1, z2, z3, z4, z5]) gs = none from hgf)]
        clear hgf
        go_wp2_with fail
        refine CF.out.mono ?_
        rintro e w5 ⟨a5, c5, rfl, _, _, hb5⟩
        have hB5 := Below.on (Below.on HA.out hb5) (bel_new w5 (.cells #[.int .i64 0, .int .i64 0, .int .i64 0, .slice a5 0 c5] 41))
        have HC5 := hid (HC4.out.on hB5)
        have HK5 := hid (HK4.out.trans (kp_of_below hB5 []) (by simp))
        rw [← HN.out] at HC5
        clear hb5 hB5 HC4 HK4
        go_wp2
        go_roundw
        case rel => exact ⟨j + 1, by go_num, by omega, HC5.out, HK5.out⟩
        case measure => simp [numOf]; omega
      | some g =>
        rw [hgf] at CF
        have hgm := gf_mem hgf
        have hgl := HGN.out g hgm
        have HN : Hid ((V.take (j + 1)).foldl (ptc W l (gs.map gcl)) (fll W v l L) = drw W z2 z3 g.w g.h g.l l M) := by
          rw [Hid, HST.out, ptc_some (show gf (nm5 1 [z0, z1, z2, z3, z4, z5]) gs = some g from hgf)]
          rfl
        have HGO := hid (HG4.out.ok g hgm)
        obtain ⟨g0, g1, g2, ga, gn, gc, gl⟩ := g
        unfold FdN at CF
        dsimp only [Option.getD_some, Option.isSome_some] at CF
        dsimp only at hgl HN
        clear hgf hgm
        go_wp2_with fail
        refine CF.out.mono ?_
        rintro e w5 ⟨a5, c5, rfl, hr5, hn5, hb5⟩
        have hX := bel_new w5 (.cells #[.int .i64 g0, .int .i64 g1, .int .i64 g2, .slice a5 gn c5] 41)
        have hI := bk_new w5 #[.int .i64 g0, .int .i64 g1, .int .i64 g2, .slice a5 gn c5] 41
        have hB5 := Below.on (Below.on HA.out hb5) hX
        have hV5 := (HV.out.on hb5).on hX
        have HC5 := hid (HC4.out.on hB5)
        have HK5 := hid (HK4.out.trans (kp_of_below hB5 []) (by simp))
        have hp5 := hr5.on hX
        have hab : 0 < gn → ∀ x, a5 = some x → x.block ≠ b := fun _ x hx => by
          have h1 := hn5 x hx
          have h2 := HSZ.out
          omega
        have q2 := hV5.cell 2
        have q3 := hV5.cell 3
        have i1 := hI.cell 1
        have i2 := hI.cell 2
        have i3 := hI.cell 3
        have CD := hid (cdraw_any HC5.out z2 z3 g1 g2 hi2 hi3 HGO.out.kw HGO.out.kh a5 gn c5 gl hp5 hgl hab al nl cl l (HLK.out _ HK5.out) hnl)
        rw [← HN.out] at CD
        clear hb5 hX hI hB5 hV5 hp5 hr5 hn5 hab HC4 HK4 HST HN HV HA CF HSZ
        go_wp2_with fail
        refine CD.out.mono ?_
        rintro e w6 ⟨rfl, hC6, hk6⟩
        have HC6 := hid hC6
        have HK6 := hid (HK5.out.trans hk6 (fun k hk _ => hk))
        clear hC6 hk6 HC5 HK5 CD
        go_wp2
        go_roundw
        case rel => exact ⟨j + 1, by go_num, by omega, HC6.out, HK6.out⟩
        case measure => simp [numOf]; omega
    · have e1 : decide ((j : Int) < n) = false := decide_eq_false (by omega)
      have HF : Hid (M = P) := by
        rw [Hid, HP.out, HM.out, List.take_of_length_le (by rw [HL.out]; omega)]
      rw [HF.out] at HC4
      go_wp2
      go_end0
      exact ⟨rfl, HC4.out, HK4.out⟩
end Go.Proofs.YtmiapccngeafkaaDoor

/- The contracts of the program's Cover, slices.IndexFunc, slices.ContainsFunc, Has. -/
namespace Go.Proofs.YtmiapccngeafkaaDoor
open Go Go.RowKit

/-- Two rectangles in the call's first two blocks. -/
structure Tw (w u : World) (a b : Rc) : Prop where
  fst : Bx u w.heap.size a
  snd : Bx u (w.heap.size + 1) b
  bel : Below w.heap.size w u
theorem Tw.on {w u v : World} {a b : Rc} (h : Tw w u a b) (hb : Below u.heap.size u v) : Tw w v a b := ⟨h.fst.on hb, h.snd.on hb, Below.on h.bel hb⟩
theorem Tw.st1 {w u : World} {a b : Rc} (h : Tw w u a b) (c : Rc) : Tw w (st4 u w.heap.size c) c b := ⟨h.fst.st c, h.snd.st_other (by omega) c, below_st h.bel (Nat.le_refl _) c⟩
theorem Tw.st2 {w u : World} {a b : Rc} (h : Tw w u a b) (c : Rc) : Tw w (st4 u (w.heap.size + 1) c) a c := ⟨h.fst.st_other (by omega) c, h.snd.st c, below_st h.bel (by omega) c⟩

/-- The cover of all. -/
def cvl (l : List Rc) : Rc := l.foldl cov rz
theorem cvl_snoc {l : List Rc} {j : Nat} {r : Rc} (h : l[j]? = some r) : cvl (l.take (j + 1)) = cov (cvl (l.take j)) r := by
  rw [List.take_add_one, h]
  simp [cvl]
theorem cvl_ck {l : List Rc} (hk : ∀ r ∈ l, Ck r) : cvl l = rz ∨ Ck (cvl l) := by
  have key : ∀ (l : List Rc) (a : Rc), (∀ r ∈ l, Ck r) → (a = rz ∨ Ck a) → (l.foldl cov a = rz ∨ Ck (l.foldl cov a)) := by
    intro l
    induction l with
    | nil => intro a _ h; exact h
    | cons r l ih =>
      intro a hk ha
      refine ih _ (fun x hx => hk x (by simp [hx])) (.inr ?_)
      have k := hk r (by simp)
      rcases ha with rfl | ha
      · rw [cov_rz, pln_full k.emp]; exact k
      · exact cov_ck ha k
  exact key l rz hk (.inl rfl)

set_option maxRecDepth 100000 in
set_option maxHeartbeats 1000000 in
theorem rcoverall_any (a : Option Addr) (n c : Nat) (l : List Rc) (w : World) (h : RdC w a n c l) :
    Calls Tryd.prog 60 #[.slice a n c] w fun e w' => ∃ r, r = (if rgn l = true then cvl l else rz) ∧ e = .returned (.agg #[.int .i64 r.x, .int .i64 r.y, .int .i64 r.w, .int .i64 r.h]) ∧ Below w.heap.size w w' := by
  have C1 := hid (fun u hu => regcheck_any a n c l u hu)
  have HL := hid h.len
  have hs := h.small
  have H := hid h
  have HT : Hid (Tw w ((w.alloc (ob rz)).alloc (ob rz)) rz rz) := by
    obtain ⟨h1, h2, h3⟩ := box2 rz rz (Below.refl ((w.alloc (ob rz)).alloc (ob rz)).heap.size ((w.alloc (ob rz)).alloc (ob rz)))
    exact ⟨h1, h2, h3⟩
  clear h
  cases h1 : rgn l
  · rw [h1] at C1
    go_enter Tryd.func60, Tryd.ntmps60
    go_wp2_with fail
    refine (C1.out _ (H.out.on HT.out.bel)).mono ?_
    rintro e w1 ⟨rfl, hb1⟩
    have hT := HT.out.on hb1
    obtain ⟨c0, c1, c2, c3⟩ := hT.snd.all
    obtain ⟨d0, d1, d2, d3⟩ := hT.fst.all
    have fz := hT.fst.fz
    have HT2 := hid hT
    clear hT hb1
    go_wp2
    refine bodyPost_ret (results_cell_row rfl _ _ w.heap.size _ _ _ _ rfl (HT2.out.fst.st rz).obj Tryd.underlying24 rfl infoR) rfl ?_
    exact ⟨rfl, below_st HT2.out.bel (Nat.le_refl _) rz⟩
  · rw [h1] at C1
    have KC := hid (rgn_iff.1 h1).ck
    go_enter Tryd.func60, Tryd.ntmps60
    go_wp2_with fail
    refine (C1.out _ (H.out.on HT.out.bel)).mono ?_
    rintro e w1 ⟨rfl, hb1⟩
    have HT2 := hid (HT.out.on hb1)
    clear hb1 HT
    go_wp2
    go_loopw [12] (fun i wr => ∃ j : Nat, i = .int .i64 j ∧ j ≤ n ∧ Tw w wr rz (cvl (l.take j))) (fun i _ => n - (numOf i).toNat)
    case atStart => exact ⟨0, rfl, by omega, HT2.out⟩
    case round =>
      obtain ⟨j, rfl, hj, hT⟩ := hrel
      have HT3 := hid hT
      clear hT HT2
      by_cases hgo : j < n
      · have e1 : decide ((j : Int) < n) = true := decide_eq_true (by omega)
        obtain ⟨b, off, r, rfl, _, hr, ok, he⟩ := (H.out.on HT3.out.bel).el hgo
        obtain ⟨_, c0, c1, c2, c3⟩ := he
        have k := KC.out r (List.mem_of_getElem? hr)
        have hA := cvl_ck (l := l.take j) (fun x hx => KC.out x (List.mem_of_mem_take hx))
        have HS := hid (cvl_snoc hr)
        generalize cvl (l.take j) = A0 at hA HT3 HS
        have CV := hid (fun u => cover_any A0 r (by rcases hA with rfl | hA; exact rz_ok; exact hA.ok) ok (fun he hf => cvr_ok (by rcases hA with rfl | hA; cases he; exact hA) k) u)
        have HN := hid (HT3.out.on (below_new wr (ob r)))
        rw [ob] at HN
        obtain ⟨d0, d1, d2, d3⟩ := HT3.out.snd.all
        have hlt2 := HT3.out.snd.lt
        clear hr k hA ok
        go_wp2_with fail
        refine (CV.out _).mono ?_
        rintro e w2 ⟨rfl, hb2⟩
        have hT4 := HN.out.on hb2
        obtain ⟨g0, g1, g2, g3⟩ := hT4.snd.all
        have fz := hT4.snd.fz
        have HT5 := hid (hT4.st2 (cov A0 r))
        clear hT4 hb2 HN CV
        go_wp2
        go_roundw
        case rel => exact ⟨j + 1, by go_num, by omega, by rw [HS.out]; exact HT5.out⟩
        case measure => simp [numOf]; omega
      · have e1 : decide ((j : Int) < n) = false := decide_eq_false (by omega)
        have HE : Hid (l.take j = l) := List.take_of_length_le (by rw [HL.out]; omega)
        rw [HE.out] at HT3
        obtain ⟨c0, c1, c2, c3⟩ := HT3.out.snd.all
        obtain ⟨d0, d1, d2, d3⟩ := HT3.out.fst.all
        have fz := HT3.out.fst.fz
        go_wp2
        refine bodyPost_ret (results_cell_row rfl _ _ w.heap.size _ _ _ _ rfl (HT3.out.fst.st (cvl l)).obj Tryd.underlying24 rfl infoR) rfl ?_
        exact ⟨rfl, below_st HT3.out.bel (Nat.le_refl _) (cvl l)⟩

/-- Where the first is of which p holds. -/
def idx (p : Rc → Bool) : List Rc → Option Nat
  | [] => none
  | r :: t => if p r = true then some 0 else (idx p t).map (· + 1)
def idxI (p : Rc → Bool) (l : List Rc) : Int := match idx p l with
  | some k => k
  | none => -1
theorem idx_drop {p : Rc → Bool} {l : List Rc} : ∀ {j : Nat}, (∀ k r, k < j → l[k]? = some r → p r = false) → idx p l = (idx p (l.drop j)).map (· + j)
  | 0, _ => by simp
  | j + 1, h => by
    rw [idx_drop (j := j) fun k r hk hr => h k r (by omega) hr]
    cases hd : l[j]? with
    | none =>
      have : l.length ≤ j := List.getElem?_eq_none_iff.1 hd
      rw [List.drop_eq_nil_of_le this, List.drop_eq_nil_of_le (by omega)]
      rfl
    | some r =>
      rw [drop_at hd, idx, if_neg (by rw [h j r (by omega) hd]; decide)]
      cases idx p (l.drop (j + 1)) with
      | none => rfl
      | some k => simp; omega
theorem idxI_any {p : Rc → Bool} {l : List Rc} : decide (0 ≤ idxI p l) = l.any p := by
  unfold idxI
  induction l with
  | nil => rfl
  | cons r l ih =>
    rw [idx, List.any_cons]
    cases h : p r
    · rw [if_neg (by decide), Bool.false_or, ← ih]
      cases idx p l with
      | none => rfl
      | some k => simp; omega
    · rw [if_pos rfl, Bool.true_or]
      rfl



theorem below_two (w : World) (o o' : Obj) : Below w.heap.size w ((w.alloc o).alloc o') := Below.on (below_new w o) (below_new _ o')
theorem cell_two (w : World) (x y : Int) (T : TypeId) : ((w.alloc (.cells #[.int .i64 x] T)).alloc (.cells #[.int .i64 y] T)).cell? ⟨w.heap.size, 0, none⟩ = some (.int .i64 x) ∧ ((w.alloc (.cells #[.int .i64 x] T)).alloc (.cells #[.int .i64 y] T)).cell? ⟨w.heap.size + 1, 0, none⟩ = some (.int .i64 y) := by
  constructor
  · rw [(below_new (w.alloc (.cells #[.int .i64 x] T)) (.cells #[.int .i64 y] T)).cell (by simp), World.cell?, heap_alloc_new]
    rfl
  · rw [World.cell?]
    have := heap_alloc_new (w.alloc (.cells #[.int .i64 x] T)) (.cells #[.int .i64 y] T)
    rw [World.size_alloc] at this
    rw [this]
    rfl


end Go.Proofs.YtmiapccngeafkaaDoor
