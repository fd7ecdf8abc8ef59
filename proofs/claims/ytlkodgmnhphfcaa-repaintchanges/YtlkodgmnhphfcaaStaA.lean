/- Slices of structs of m numbers, read and of a call's own; children put and found; what a surface has. No program. -/
import Derived.Test.YtlkodgmnhphfcaaLibK
import Derived.Test.YtlkodgmnhphfcaaLibA
import Derived.Test.YtlkodgmnhphfcaaLibS
import Derived.Laws.OwnMore
import Derived.Deep.DeepCutAuto
import Derived.Deep.CutRange
namespace Go.Proofs.Ytlkodgmnhphfcaa
open Go Go.RowKit

/-- A slice whose first n elements are structs of m numbers, l. -/
structure RdM (m : Nat) (w : World) (a : Option Addr) (n c : Nat) (l : List (List Int)) : Prop where
  len : l.length = n
  le : n ≤ c
  max : c ≤ maxLen
  hnil : a = none → c = 0
  pl : 0 < n → ∃ b off, a = some ⟨b, off, none⟩ ∧ b < w.heap.size ∧ ∀ j y, l[j]? = some y → ∀ i z, y[i]? = some z → w.cell? ⟨b, off + (j * m + i), none⟩ = some (.int .i64 z)
  size : ∀ y ∈ l, y.length = m

theorem RdM.on {m : Nat} {w u : World} {a : Option Addr} {n c : Nat} {l : List (List Int)} (h : RdM m w a n c l) (hb : Below w.heap.size w u) : RdM m u a n c l :=
  ⟨h.len, h.le, h.max, h.hnil, fun hn => by
    obtain ⟨b, off, e, h1, h2⟩ := h.pl hn
    exact ⟨b, off, e, Nat.lt_of_lt_of_le h1 hb.size, fun j y hy i z hz => by rw [hb.cell h1]; exact h2 j y hy i z hz⟩, h.size⟩
theorem RdM.kp {m : Nat} {w u : World} {a : Option Addr} {n c : Nat} {l : List (List Int)} (h : RdM m w a n c l) {X : List Nat} (hb : Kp X w u) (hX : ∀ x, a = some x → 0 < n → x.block ∉ X) : RdM m u a n c l :=
  ⟨h.len, h.le, h.max, h.hnil, fun hn => by
    obtain ⟨b, off, e, h1, h2⟩ := h.pl hn
    exact ⟨b, off, e, Nat.lt_of_lt_of_le h1 hb.size, fun j y hy i z hz => hb.cell (h2 j y hy i z hz) (hX ⟨b, off, none⟩ e hn)⟩, h.size⟩
theorem RdM.nil (m : Nat) (w : World) : RdM m w none 0 0 [] := ⟨rfl, Nat.le_refl _, Nat.zero_le _, fun _ => rfl, fun h => absurd h (by omega), by simp⟩
theorem RdM.small {m : Nat} {w : World} {a : Option Addr} {n c : Nat} {l : List (List Int)} (h : RdM m w a n c l) : n ≤ 9223372036854775807 ∧ c ≤ 9223372036854775807 := by
  have h1 := h.le
  have h2 := h.max
  simp only [maxLen] at h2
  omega
theorem RdM.drewN {m : Nat} {w : World} {a : Option Addr} {n c : Nat} {l : List (List Int)} (h : RdM m w a n c l) (q : Nat) : RdM m (w.drewN q) a n c l := h.on (below_drewN (Below.refl _ _) q)
theorem RdM.at_ {m : Nat} {w : World} {a : Option Addr} {n c : Nat} {l : List (List Int)} (h : RdM m w a n c l) {j : Nat} (hj : j < n) : ∃ b off y, a = some ⟨b, off, none⟩ ∧ b < w.heap.size ∧ l[j]? = some y ∧ y.length = m ∧ ∀ i z, y[i]? = some z → w.cell? ⟨b, off + (j * m + i), none⟩ = some (.int .i64 z) := by
  have hl := h.len
  obtain ⟨b, off, e, h1, h2⟩ := h.pl (by omega)
  have hr : l[j]? = some l[j] := List.getElem?_eq_getElem (by omega)
  exact ⟨b, off, _, e, h1, hr, h.size _ (List.mem_of_getElem? hr), h2 j _ hr⟩
theorem RdM.el1 {w : World} {a : Option Addr} {n c : Nat} {l : List (List Int)} (h : RdM 1 w a n c l) {j : Nat} (hj : j < n) : ∃ b off z0, a = some ⟨b, off, none⟩ ∧ b < w.heap.size ∧ l[j]? = some [z0] ∧ w.cell? ⟨b, off + j, none⟩ = some (.int .i64 z0) := by
  obtain ⟨b, off, y, e, h1, h2, h3, h4⟩ := h.at_ hj
  match y, h3 with
  | [z0], _ => exact ⟨b, off, z0, e, h1, h2, by simpa using h4 0 z0 rfl⟩
theorem RdM.el3 {w : World} {a : Option Addr} {n c : Nat} {l : List (List Int)} (h : RdM 3 w a n c l) {j : Nat} (hj : j < n) : ∃ b off z0 z1 z2, a = some ⟨b, off, none⟩ ∧ b < w.heap.size ∧ l[j]? = some [z0, z1, z2] ∧ w.cell? ⟨b, off + j * 3, none⟩ = some (.int .i64 z0) ∧ w.cell? ⟨b, off + j * 3 + 1, none⟩ = some (.int .i64 z1) ∧ w.cell? ⟨b, off + j * 3 + 2, none⟩ = some (.int .i64 z2) := by
  obtain ⟨b, off, y, e, h1, h2, h3, h4⟩ := h.at_ hj
  match y, h3 with
  | [z0, z1, z2], _ => exact ⟨b, off, z0, z1, z2, e, h1, h2, by simpa using h4 0 z0 rfl, by simpa [Nat.add_assoc] using h4 1 z1 rfl, by simpa [Nat.add_assoc] using h4 2 z2 rfl⟩
theorem RdM.el4 {w : World} {a : Option Addr} {n c : Nat} {l : List (List Int)} (h : RdM 4 w a n c l) {j : Nat} (hj : j < n) : ∃ b off z0 z1 z2 z3, a = some ⟨b, off, none⟩ ∧ b < w.heap.size ∧ l[j]? = some [z0, z1, z2, z3] ∧ w.cell? ⟨b, off + j * 4, none⟩ = some (.int .i64 z0) ∧ w.cell? ⟨b, off + j * 4 + 1, none⟩ = some (.int .i64 z1) ∧ w.cell? ⟨b, off + j * 4 + 2, none⟩ = some (.int .i64 z2) ∧ w.cell? ⟨b, off + j * 4 + 3, none⟩ = some (.int .i64 z3) := by
  obtain ⟨b, off, y, e, h1, h2, h3, h4⟩ := h.at_ hj
  match y, h3 with
  | [z0, z1, z2, z3], _ => exact ⟨b, off, z0, z1, z2, z3, e, h1, h2, by simpa using h4 0 z0 rfl, by simpa [Nat.add_assoc] using h4 1 z1 rfl, by simpa [Nat.add_assoc] using h4 2 z2 rfl, by simpa [Nat.add_assoc] using h4 3 z3 rfl⟩

theorem rdm_of_rdn {m : Nat} (hm : 0 < m) {w : World} {a : Option Addr} {n c : Nat} {l : List (List Int)} (h : RdN m w a n c l) : RdM m w a n c l := by
  refine ⟨h.len, h.le, h.max, h.hnil, fun hn => ?_, h.size⟩
  obtain ⟨b, off, y, e, h1, _⟩ := h.at_ hm 0 hn
  refine ⟨b, off, e, h1, fun j y hy i z hz => ?_⟩
  have := h.cells _ e j y hy i z hz
  rwa [Go.WideShapes.add_plain] at this

/-- Such structs' cells. -/
def mcs (l : List (List Int)) : List Value := l.flatMap fun y => y.map (Value.int .i64)
theorem mcs_nil : mcs [] = [] := rfl
theorem mcs_cons (y : List Int) (l : List (List Int)) : mcs (y :: l) = y.map (Value.int .i64) ++ mcs l := rfl
theorem mcs_append (a b : List (List Int)) : mcs (a ++ b) = mcs a ++ mcs b := by simp [mcs]
theorem mcs_length {m : Nat} {l : List (List Int)} (h : ∀ y ∈ l, y.length = m) : (mcs l).length = l.length * m := by
  induction l with
  | nil => simp [mcs]
  | cons y l ih =>
    rw [mcs_cons, List.length_append, List.length_map, ih fun z hz => h z (by simp [hz]), h y (by simp), List.length_cons, Nat.add_mul, Nat.one_mul, Nat.add_comm]
theorem mcs_one (l : List (List Int)) : ∀ u ∈ mcs l, u.oneCell' = true := by
  intro u hu
  obtain ⟨x, _, hx⟩ := List.mem_flatMap.1 hu
  obtain ⟨z, _, rfl⟩ := List.mem_map.1 hx
  rfl
theorem mcs_at {m : Nat} {l : List (List Int)} (h : ∀ y ∈ l, y.length = m) {j : Nat} {y : List Int} (hj : l[j]? = some y) {i : Nat} {z : Int} (hi : y[i]? = some z) : (mcs l)[j * m + i]? = some (.int .i64 z) := by
  induction l generalizing j with
  | nil => simp at hj
  | cons x l ih =>
    have hx := h x (by simp)
    rw [mcs_cons]
    cases j with
    | zero =>
      simp only [List.getElem?_cons_zero, Option.some.injEq] at hj
      subst hj
      have : i < x.length := (List.getElem?_eq_some_iff.1 hi).1
      rw [Nat.zero_mul, Nat.zero_add, List.getElem?_append_left (by simpa using this), List.getElem?_map, hi]
      rfl
    | succ j =>
      rw [List.getElem?_append_right (by rw [List.length_map, hx, Nat.succ_mul]; omega), List.length_map, hx, show (j + 1) * m + i - m = j * m + i by rw [Nat.succ_mul]; omega]
      exact ih (fun z hz => h z (by simp [hz])) (by simpa using hj)
theorem mcs_inv {m : Nat} {l : List (List Int)} (h : ∀ y ∈ l, y.length = m) {k : Nat} {u : Value} (hu : (mcs l)[k]? = some u) : ∃ j i y z, k = j * m + i ∧ l[j]? = some y ∧ y[i]? = some z ∧ u = .int .i64 z := by
  have hk : k < l.length * m := by
    rw [← mcs_length h]
    exact (List.getElem?_eq_some_iff.1 hu).1
  have hm : 0 < m := by
    rcases Nat.eq_zero_or_pos m with h0 | h0
    · rw [h0] at hk; omega
    · exact h0
  have hj : k / m < l.length := by rw [Nat.div_lt_iff_lt_mul hm]; exact hk
  have e1 : l[k / m]? = some l[k / m] := List.getElem?_eq_getElem hj
  have hl := h _ (List.mem_of_getElem? e1)
  have e2 : l[k / m][k % m]? = some (l[k / m][k % m]'(by rw [hl]; exact Nat.mod_lt _ hm)) := List.getElem?_eq_getElem _
  have e3 : k = k / m * m + k % m := by rw [Nat.mul_comm]; exact (Nat.div_add_mod k m).symm
  refine ⟨k / m, k % m, _, _, e3, e1, e2, ?_⟩
  have := mcs_at h e1 e2
  rw [← e3, hu] at this
  simpa using this

/-- What is appended by 'append(x, l...)'. -/
theorem RdM.src {P : Program} {m : Nat} {w : World} {a : Option Addr} {n c : Nat} {l : List (List Int)} (h : RdM m w a n c l) {t e : TypeId} (ht : P.underlying t = some (.slice e)) : Src P m t (.slice a n c) n (mcs l) w := by
  have h3 := h.len
  cases a with
  | none =>
    have h1 := h.hnil rfl
    have h2 := h.le
    obtain rfl : n = 0 := by omega
    obtain rfl : l = [] := List.eq_nil_of_length_eq_zero h3
    exact Src.ofNil w ht c
  | some x =>
    refine Src.ofSlice w ht x n c (mcs l) (by rw [mcs_length h.size, h3]) (fun j u hu => ?_) (mcs_one l)
    rcases Nat.eq_zero_or_pos n with h0 | h0
    · obtain rfl : l = [] := List.eq_nil_of_length_eq_zero (by omega)
      simp [mcs] at hu
    · obtain ⟨b, off, e1, _, h2⟩ := h.pl h0
      cases e1
      rw [Go.WideShapes.add_plain]
      obtain ⟨p, q, y, z, rfl, hp, hq, rfl⟩ := mcs_inv h.size hu
      exact h2 p y hp q z hq

/-- A row of the call's own: m cells an element, of the type e; the call began in w. -/
structure OwM (m e : Nat) (w u : World) (v : Value) (l : List (List Int)) : Prop where
  own : u.ownsRow w.heap.size e m v l.length (mcs l)
  bel : Below w.heap.size w u
  size : ∀ y ∈ l, y.length = m
theorem OwM.on {m e : Nat} {w u u' : World} {v : Value} {l : List (List Int)} (h : OwM m e w u v l) (hb : Below u.heap.size u u') : OwM m e w u' v l := ⟨ownsRow_below h.own hb, Below.on h.bel hb, h.size⟩
theorem OwM.base {m e : Nat} {w w0 u : World} {v : Value} {l : List (List Int)} (h : OwM m e w u v l) (hb : Below w0.heap.size w0 w) : OwM m e w0 u v l := ⟨ownsRow_low h.own hb.size, Below.on hb h.bel, h.size⟩
theorem OwM.nil (m e : Nat) (w : World) : OwM m e w w (.slice none 0 0) [] := ⟨World.ownsRow_nil _ _ _ _, Below.refl _ _, by simp⟩
theorem OwM.grown {m e : Nat} {w u u' : World} {v v' : Value} {l k : List (List Int)} (h : OwM m e w u v l) (hk : ∀ y ∈ k, y.length = m) (o2 : u'.ownsRow w.heap.size e m v' (l.length + k.length) (mcs l ++ mcs k)) (g : u.grownBy u' v.ownBlock) : OwM m e w u' v' (l ++ k) :=
  ⟨by rw [List.length_append, mcs_append]; exact o2, h.bel.grown g h.bel.size (fun k hk => (h.own.lt k hk).1), fun y hy => by
    rcases List.mem_append.1 hy with hy | hy
    · exact h.size y hy
    · exact hk y hy⟩
theorem OwM.rd {m e : Nat} {w u : World} {v : Value} {l : List (List Int)} (h : OwM m e w u v l) : ∃ a c, v = .slice a l.length c ∧ RdM m u a l.length c l ∧ ∀ x, a = some x → w.heap.size ≤ x.block ∧ x.block < u.heap.size := by
  rcases h.own.2 with ⟨rfl, h0⟩ | ⟨g, cap, cur, rfl, hb, hg, hn, hm, _, _⟩
  · have hl := List.eq_nil_of_length_eq_zero h0
    subst hl
    exact ⟨none, 0, rfl, RdM.nil m u, fun x hx => by cases hx⟩
  · refine ⟨some ⟨g, 0, none⟩, cap, rfl, ⟨rfl, hn, hm, (fun h => by cases h), fun _ => ⟨g, 0, rfl, (h.own.lt g rfl).2, fun j y hy i z hz => ?_⟩, h.size⟩, fun x hx => ?_⟩
    · have hlt : j * m + i < l.length * m := by
        rw [← mcs_length h.size]
        exact (List.getElem?_eq_some_iff.1 (mcs_at h.size hy hz)).1
      rw [Nat.zero_add, h.own.cellAt _ hlt]
      exact mcs_at h.size hy hz
    · cases hx
      exact ⟨hb, (Array.getElem?_eq_some_iff.1 hg).1⟩

/-- A child's ID. -/
def hd (y : List Int) : Int := y.getD 0 0
theorem hd3 (a b c : Int) : hd [a, b, c] = a := rfl
/-- Where the first one of an ID stands. -/
def ixf (k : Int) : List (List Int) → Option Nat
  | [] => none
  | x :: l => if hd x = k then some 0 else (ixf k l).map (· + 1)
def ixI (k : Int) (l : List (List Int)) : Int := match ixf k l with
  | some i => i
  | none => -1
/-- A child put. -/
def put1 : List (List Int) → List Int → List (List Int)
  | [], c => [c]
  | x :: l, c => if hd x = hd c then c :: l else x :: put1 l c
def puts (l m : List (List Int)) : List (List Int) := m.foldl put1 l
/-- A child found. -/
def fnd (k : Int) : List (List Int) → Option (List Int)
  | [] => none
  | x :: l => if hd x = k then some x else fnd k l

theorem drop_at' {α : Type} {l : List α} {j : Nat} {x : α} (h : l[j]? = some x) : l.drop j = x :: l.drop (j + 1) := by
  obtain ⟨hj, rfl⟩ := List.getElem?_eq_some_iff.1 h
  exact List.drop_eq_getElem_cons hj
theorem ixf_drop {k : Int} {l : List (List Int)} : ∀ {j : Nat}, (∀ i y, i < j → l[i]? = some y → hd y ≠ k) → ixf k l = (ixf k (l.drop j)).map (· + j)
  | 0, _ => by simp
  | j + 1, h => by
    rw [ixf_drop (j := j) fun i y hi hy => h i y (by omega) hy]
    cases hd' : l[j]? with
    | none =>
      have : l.length ≤ j := List.getElem?_eq_none_iff.1 hd'
      rw [List.drop_eq_nil_of_le this, List.drop_eq_nil_of_le (by omega)]
      rfl
    | some y =>
      rw [drop_at' hd', ixf, if_neg (h j y (by omega) hd')]
      cases ixf k (l.drop (j + 1)) with
      | none => rfl
      | some i => simp; omega
theorem ixf_none {k : Int} : ∀ {l : List (List Int)}, ixf k l = none → (∀ y ∈ l, hd y ≠ k) ∧ fnd k l = none
  | [], _ => ⟨by simp, rfl⟩
  | x :: l, h => by
    rw [ixf] at h
    split at h
    · cases h
    · rename_i hx
      obtain ⟨h1, h2⟩ := ixf_none (l := l) (by simpa using h)
      refine ⟨fun y hy => ?_, by rw [fnd, if_neg hx, h2]⟩
      rcases List.mem_cons.1 hy with rfl | hy
      · exact hx
      · exact h1 y hy
theorem ixf_some {k : Int} : ∀ {l : List (List Int)} {i : Nat}, ixf k l = some i → i < l.length ∧ fnd k l = l[i]? ∧ ∀ c, hd c = k → put1 l c = l.set i c
  | [], _, h => by cases h
  | x :: l, i, h => by
    rw [ixf] at h
    split at h
    · rename_i hx
      cases h
      refine ⟨by simp, by rw [fnd, if_pos hx]; rfl, fun c hc => ?_⟩
      rw [put1, if_pos (by rw [hx, hc])]
      rfl
    · rename_i hx
      obtain ⟨m, hm, rfl⟩ := Option.map_eq_some_iff.1 h
      obtain ⟨h1, h2, h3⟩ := ixf_some hm
      refine ⟨by simpa using h1, by rw [fnd, if_neg hx, h2]; rfl, fun c hc => ?_⟩
      rw [put1, if_neg (by rw [hc]; exact hx), h3 c hc]
      rfl
theorem put1_none {l : List (List Int)} {c : List Int} (h : ∀ y ∈ l, hd y ≠ hd c) : put1 l c = l ++ [c] := by
  induction l with
  | nil => rfl
  | cons x l ih =>
    rw [put1, if_neg (h x (by simp)), ih fun y hy => h y (by simp [hy])]
    rfl
theorem put1_length {l : List (List Int)} {c : List Int} : l.length ≤ (put1 l c).length ∧ (put1 l c).length ≤ l.length + 1 := by
  induction l with
  | nil => simp [put1]
  | cons x l ih =>
    rw [put1]
    split
    · simp
    · simp only [List.length_cons]; omega
theorem put1_size {m : Nat} {l : List (List Int)} {c : List Int} (h : ∀ y ∈ l, y.length = m) (hc : c.length = m) : ∀ y ∈ put1 l c, y.length = m := by
  induction l with
  | nil => intro y hy; simp [put1] at hy; rw [hy]; exact hc
  | cons x l ih =>
    intro y hy
    rw [put1] at hy
    split at hy
    · rcases List.mem_cons.1 hy with rfl | hy
      · exact hc
      · exact h y (by simp [hy])
    · rcases List.mem_cons.1 hy with rfl | hy
      · exact h y (by simp)
      · exact ih (fun z hz => h z (by simp [hz])) y hy
theorem fnd_put1 (l : List (List Int)) (c : List Int) : fnd (hd c) (put1 l c) = some c := by
  induction l with
  | nil => simp [put1, fnd]
  | cons x l ih =>
    rw [put1]
    split
    · rw [fnd, if_pos rfl]
    · rename_i hx
      rw [fnd, if_neg hx, ih]
theorem fnd_other {k : Int} (l : List (List Int)) (c : List Int) (h : k ≠ hd c) : fnd k (put1 l c) = fnd k l := by
  induction l with
  | nil => simp [put1, fnd, Ne.symm h]
  | cons x l ih =>
    rw [put1]
    split
    · rename_i hx
      rw [fnd, fnd, if_neg (Ne.symm h), if_neg (by rw [hx]; exact Ne.symm h)]
    · rw [fnd, fnd, ih]
theorem puts_nil (l : List (List Int)) : puts l [] = l := rfl
theorem puts_snoc (l m : List (List Int)) (c : List Int) : puts l (m ++ [c]) = put1 (puts l m) c := by simp [puts]
theorem puts_cons (l m : List (List Int)) (c : List Int) : puts l (c :: m) = puts (put1 l c) m := rfl
theorem puts_length (l m : List (List Int)) : (puts l m).length ≤ l.length + m.length := by
  induction m generalizing l with
  | nil => simp [puts]
  | cons c m ih =>
    have h1 := ih (put1 l c)
    have h2 := (put1_length (l := l) (c := c)).2
    rw [puts_cons]
    simp only [List.length_cons]
    omega
theorem puts_size {m : Nat} {l k : List (List Int)} (h : ∀ y ∈ l, y.length = m) (hk : ∀ y ∈ k, y.length = m) : ∀ y ∈ puts l k, y.length = m := by
  induction k generalizing l with
  | nil => exact h
  | cons c k ih => exact ih (put1_size h (hk c (by simp))) (fun y hy => hk y (by simp [hy]))

/-- No child stands twice. -/
def Onc (l : List (List Int)) : Prop := l.Pairwise fun x y => hd x ≠ hd y
theorem put1_put1 (l : List (List Int)) {x c : List Int} (h : hd x = hd c) : put1 (put1 l x) c = put1 l c := by
  induction l with
  | nil => simp [put1, h]
  | cons y l ih =>
    by_cases hy : hd y = hd x
    · rw [put1, if_pos hy, put1, if_pos h, put1, if_pos (by rw [hy, h])]
    · rw [put1, if_neg hy, put1, if_neg (by rw [← h]; exact hy), put1, if_neg (by rw [← h]; exact hy), ih]
/-- It is there already. -/
def Thr (k : Int) (l : List (List Int)) : Prop := ∃ y ∈ l, hd y = k
theorem thr_put1 {k : Int} {l : List (List Int)} (c : List Int) (h : Thr k l) : Thr k (put1 l c) := by
  induction l with
  | nil => obtain ⟨y, hy, _⟩ := h; simp at hy
  | cons x l ih =>
    rw [put1]
    obtain ⟨y, hy, hk⟩ := h
    split
    · rename_i hx
      rcases List.mem_cons.1 hy with rfl | hy
      · exact ⟨c, by simp, by rw [← hx, hk]⟩
      · exact ⟨y, by simp [hy], hk⟩
    · rcases List.mem_cons.1 hy with rfl | hy
      · exact ⟨y, by simp, hk⟩
      · obtain ⟨z, hz, e⟩ := ih ⟨y, hy, hk⟩
        exact ⟨z, by simp [hz], e⟩
theorem thr_self (l : List (List Int)) (c : List Int) : Thr (hd c) (put1 l c) := by
  induction l with
  | nil => exact ⟨c, by simp [put1], rfl⟩
  | cons x l ih =>
    rw [put1]
    split
    · exact ⟨c, by simp, rfl⟩
    · obtain ⟨z, hz, e⟩ := ih
      exact ⟨z, by simp [hz], e⟩
theorem put1_comm {l : List (List Int)} {x c : List Int} (h : hd x ≠ hd c) (ht : Thr (hd c) l) : put1 (put1 l x) c = put1 (put1 l c) x := by
  induction l with
  | nil => obtain ⟨y, hy, _⟩ := ht; simp at hy
  | cons y l ih =>
    by_cases h1 : hd y = hd x
    · have h2 : hd y ≠ hd c := by rw [h1]; exact h
      rw [put1, if_pos h1, put1, if_neg h, put1, if_neg h2, put1, if_pos h1]
    · by_cases h2 : hd y = hd c
      · rw [put1, if_neg h1, put1, if_pos h2, put1, if_pos h2, put1, if_neg (Ne.symm h)]
      · rw [put1, if_neg h1, put1, if_neg h2, put1, if_neg h2, put1, if_neg h1, ih]
        obtain ⟨z, hz, e⟩ := ht
        rcases List.mem_cons.1 hz with rfl | hz
        · exact absurd e h2
        · exact ⟨z, hz, e⟩
theorem put1_puts {a : List (List Int)} : ∀ {l : List (List Int)} {c : List Int}, (∀ y ∈ a, hd y ≠ hd c) → Thr (hd c) l → put1 (puts l a) c = puts (put1 l c) a := by
  induction a with
  | nil => intros; rfl
  | cons x a ih =>
    intro l c h ht
    rw [puts_cons, puts_cons, ih (fun y hy => h y (by simp [hy])) (thr_put1 x ht), put1_comm (h x (by simp)) ht]
theorem puts_put1 {a : List (List Int)} : ∀ {l : List (List Int)} {c : List Int}, Onc a → puts l (put1 a c) = put1 (puts l a) c := by
  induction a with
  | nil => intros; rfl
  | cons x a ih =>
    intro l c h
    obtain ⟨h1, h2⟩ := List.pairwise_cons.1 h
    by_cases hx : hd x = hd c
    · rw [put1, if_pos hx, puts_cons, puts_cons, put1_puts (fun y hy => by rw [← hx]; exact Ne.symm (h1 y hy)) (by rw [← hx]; exact thr_self l x), put1_put1 l hx]
    · rw [put1, if_neg hx, puts_cons, puts_cons, ih h2]
theorem mem_put1 {l : List (List Int)} {c y : List Int} (h : y ∈ put1 l c) : y = c ∨ y ∈ l := by
  induction l with
  | nil => simp [put1] at h; exact .inl h
  | cons x l ih =>
    rw [put1] at h
    split at h
    · rcases List.mem_cons.1 h with rfl | h
      · exact .inl rfl
      · exact .inr (by simp [h])
    · rcases List.mem_cons.1 h with rfl | h
      · exact .inr (by simp)
      · rcases ih h with e | e
        · exact .inl e
        · exact .inr (by simp [e])
theorem onc_put1 {l : List (List Int)} (c : List Int) (h : Onc l) : Onc (put1 l c) := by
  induction l with
  | nil => simp [put1, Onc]
  | cons x l ih =>
    obtain ⟨h1, h2⟩ := List.pairwise_cons.1 h
    rw [put1]
    split
    · rename_i hx
      exact List.pairwise_cons.2 ⟨fun y hy => by rw [← hx]; exact h1 y hy, h2⟩
    · rename_i hx
      refine List.pairwise_cons.2 ⟨fun y hy => ?_, ih h2⟩
      rcases mem_put1 hy with rfl | hy
      · exact hx
      · exact h1 y hy
theorem puts_puts {b : List (List Int)} : ∀ {l a : List (List Int)}, Onc a → puts l (puts a b) = puts (puts l a) b := by
  induction b with
  | nil => intros; rfl
  | cons c b ih =>
    intro l a h
    rw [puts_cons, puts_cons, ih (onc_put1 c h), puts_put1 h]
/-- Each put anew, in a list of itself: it is that list, where none stands twice. -/
theorem puts_self_nil {a : List (List Int)} (h : Onc a) : puts [] a = a := by
  suffices H : ∀ (p a : List (List Int)), Onc (p ++ a) → puts p a = p ++ a from H [] a h
  intro p a
  induction a generalizing p with
  | nil => intro _; simp [puts]
  | cons c a ih =>
    intro h
    have hn : ∀ y ∈ p, hd y ≠ hd c := fun y hy => (List.pairwise_append.1 h).2.2 y hy c (by simp)
    rw [puts_cons, put1_none hn, ih _ (by simpa using h)]
    simp

/-- What a surface has, or is to have. -/
structure Sq where
  at_ : Bool
  buf : Int
  dm : List (List Int)
  fr : List (List Int)
  inp : Bool
  all : Bool
  rg : List (List Int)
  ord : Bool
  od : List (List Int)
  pl : List (List Int)

def mrg (a b : Sq) : Sq := ⟨a.at_ || b.at_, bif b.at_ then b.buf else a.buf, a.dm ++ b.dm, a.fr ++ b.fr, a.inp || b.inp, bif b.inp then b.all else a.all, bif b.inp then b.rg else a.rg, a.ord || b.ord, bif b.ord then b.od else a.od, puts a.pl b.pl⟩
def apl (a b : Sq) : Sq := { mrg a b with at_ := false, inp := false, ord := false, dm := [] }
def non (s : Sq) : Bool := !s.at_ && (!s.inp && (!s.ord && (s.dm.isEmpty && (s.fr.isEmpty && s.pl.isEmpty))))
def few (s : Sq) : Bool := decide (s.dm.length ≤ 60) && (decide (s.fr.length ≤ 60) && (decide (s.rg.length ≤ 60) && (decide (s.od.length ≤ 60) && decide (s.pl.length ≤ 60))))
def sq0 : Sq := ⟨false, 0, [], [], false, false, [], false, [], []⟩
theorem mrg_buf (a b : Sq) (n : Sq) : (mrg (mrg n a) b).buf = (mrg n (mrg a b)).buf := by
  simp only [mrg]
  cases a.at_ <;> cases b.at_ <;> rfl
theorem mrg_od (a b : Sq) (n : Sq) : (mrg (mrg n a) b).od = (mrg n (mrg a b)).od := by
  simp only [mrg]
  cases a.ord <;> cases b.ord <;> rfl
theorem apl_mrg {n a b : Sq} (h : Onc a.pl) : apl n (mrg a b) = apl (apl n a) b := by
  simp only [apl, mrg, List.append_assoc, puts_puts h]
  congr 1
  · cases a.at_ <;> cases b.at_ <;> rfl
  · cases a.inp <;> cases b.inp <;> rfl
  · cases a.inp <;> cases b.inp <;> rfl
  · cases a.ord <;> cases b.ord <;> rfl
theorem apl_sq0 (n : Sq) : apl n sq0 = { n with at_ := false, inp := false, ord := false, dm := [] } := by
  simp [apl, mrg, sq0, puts_nil]
theorem apl_apl_sq0 (n : Sq) : apl (apl n sq0) sq0 = apl n sq0 := by simp [apl_sq0]
end Go.Proofs.Ytlkodgmnhphfcaa
