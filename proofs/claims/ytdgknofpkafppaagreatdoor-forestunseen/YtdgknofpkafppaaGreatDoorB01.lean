/- Lemmas that the proof leans on. -/
import Derived.Test.YtdgknofpkafppaaGreatDoorB00
import Derived.Deep.DeepCutAuto
import Derived.Test.YtdgknofpkafppaaGreatDoorChecked
import Derived.Laws.CopyOwn
import Derived.BigQuiet
namespace Go.Proofs.YtdgknofpkafppaaGreatDoor
open Go Go.RowKit
set_option maxRecDepth 100000
set_option maxHeartbeats 1000000
section
structure RdM (m : Nat) (w : World) (a : Option Addr) (n c : Nat) (l : List (List Int)) : Prop where
 len : l.length = n
 le : n ≤ c
 max : c ≤ maxLen
 hnil : a = none → c = 0
 pl : 0 < n → ∃ b off, a = some ⟨b, off, none⟩ ∧ b < w.heap.size ∧ ∀ j y, l[j]? = some y → ∀ i z, y[i]? = some z → w.cell? ⟨b, off + (j * m + i), none⟩ = some (.int .i64 z)
 size : ∀ y ∈ l, y.length = m
theorem RdM.on {m : Nat} {w u : World} {a : Option Addr} {n c : Nat} {l : List (List Int)} (h : RdM m w a n c l) (hb : Below w.heap.size w u) : RdM m u a n c l :=
 ⟨h.len, h.le, h.max, h.hnil, fun hn => by
  obtain ⟨b, off, e, h1, h2⟩ := h.pl hn
  exact ⟨b, off, e, Nat.lt_of_lt_of_le h1 hb.size, fun j y hy i z hz => by rw [hb.cell h1]; exact h2 j y hy i z hz⟩, h.size⟩
theorem RdM.kp {m : Nat} {w u : World} {a : Option Addr} {n c : Nat} {l : List (List Int)} (h : RdM m w a n c l) {X : List Nat} (hb : Kp X w u) (hX : ∀ x, a = some x → 0 < n → x.block ∉ X) : RdM m u a n c l :=
 ⟨h.len, h.le, h.max, h.hnil, fun hn => by
  obtain ⟨b, off, e, h1, h2⟩ := h.pl hn
  exact ⟨b, off, e, Nat.lt_of_lt_of_le h1 hb.size, fun j y hy i z hz => hb.cell (h2 j y hy i z hz) (hX ⟨b, off, none⟩ e hn)⟩, h.size⟩
theorem RdM.nil (m : Nat) (w : World) : RdM m w none 0 0 [] := ⟨rfl, Nat.le_refl _, Nat.zero_le _, fun _ => rfl, fun h => absurd h (by omega), by simp⟩
theorem RdM.small {m : Nat} {w : World} {a : Option Addr} {n c : Nat} {l : List (List Int)} (h : RdM m w a n c l) : n ≤ 9223372036854775807 ∧ c ≤ 9223372036854775807 := by
 have h1 := h.le
 have h2 := h.max
 simp only [maxLen] at h2
 omega
theorem RdM.at_ {m : Nat} {w : World} {a : Option Addr} {n c : Nat} {l : List (List Int)} (h : RdM m w a n c l) {j : Nat} (hj : j < n) : ∃ b off y, a = some ⟨b, off, none⟩ ∧ b < w.heap.size ∧ l[j]? = some y ∧ y.length = m ∧ ∀ i z, y[i]? = some z → w.cell? ⟨b, off + (j * m + i), none⟩ = some (.int .i64 z) := by
 have hl := h.len
 obtain ⟨b, off, e, h1, h2⟩ := h.pl (by omega)
 have hr : l[j]? = some l[j] := List.getElem?_eq_getElem (by omega)
 exact ⟨b, off, _, e, h1, hr, h.size _ (List.mem_of_getElem? hr), h2 j _ hr⟩
theorem RdM.el1 {w : World} {a : Option Addr} {n c : Nat} {l : List (List Int)} (h : RdM 1 w a n c l) {j : Nat} (hj : j < n) : ∃ b off z0, a = some ⟨b, off, none⟩ ∧ b < w.heap.size ∧ l[j]? = some [z0] ∧ w.cell? ⟨b, off + j, none⟩ = some (.int .i64 z0) := by
 obtain ⟨b, off, y, e, h1, h2, h3, h4⟩ := h.at_ hj
 match y, h3 with
 | [z0], _ => exact ⟨b, off, z0, e, h1, h2, by simpa using h4 0 z0 rfl⟩
theorem RdM.el3 {w : World} {a : Option Addr} {n c : Nat} {l : List (List Int)} (h : RdM 3 w a n c l) {j : Nat} (hj : j < n) : ∃ b off z0 z1 z2, a = some ⟨b, off, none⟩ ∧ b < w.heap.size ∧ l[j]? = some [z0, z1, z2] ∧ w.cell? ⟨b, off + j * 3, none⟩ = some (.int .i64 z0) ∧ w.cell? ⟨b, off + j * 3 + 1, none⟩ = some (.int .i64 z1) ∧ w.cell? ⟨b, off + j * 3 + 2, none⟩ = some (.int .i64 z2) := by
 obtain ⟨b, off, y, e, h1, h2, h3, h4⟩ := h.at_ hj
 match y, h3 with
 | [z0, z1, z2], _ => exact ⟨b, off, z0, z1, z2, e, h1, h2, by simpa using h4 0 z0 rfl, by simpa [Nat.add_assoc] using h4 1 z1 rfl, by simpa [Nat.add_assoc] using h4 2 z2 rfl⟩
theorem RdM.el4 {w : World} {a : Option Addr} {n c : Nat} {l : List (List Int)} (h : RdM 4 w a n c l) {j : Nat} (hj : j < n) : ∃ b off z0 z1 z2 z3, a = some ⟨b, off, none⟩ ∧ b < w.heap.size ∧ l[j]? = some [z0, z1, z2, z3] ∧ w.cell? ⟨b, off + j * 4, none⟩ = some (.int .i64 z0) ∧ w.cell? ⟨b, off + j * 4 + 1, none⟩ = some (.int .i64 z1) ∧ w.cell? ⟨b, off + j * 4 + 2, none⟩ = some (.int .i64 z2) ∧ w.cell? ⟨b, off + j * 4 + 3, none⟩ = some (.int .i64 z3) := by
 obtain ⟨b, off, y, e, h1, h2, h3, h4⟩ := h.at_ hj
 match y, h3 with
 | [z0, z1, z2, z3], _ => exact ⟨b, off, z0, z1, z2, z3, e, h1, h2, by simpa using h4 0 z0 rfl, by simpa [Nat.add_assoc] using h4 1 z1 rfl, by simpa [Nat.add_assoc] using h4 2 z2 rfl, by simpa [Nat.add_assoc] using h4 3 z3 rfl⟩
theorem rdm_of_rdn {m : Nat} (hm : 0 < m) {w : World} {a : Option Addr} {n c : Nat} {l : List (List Int)} (h : RdN m w a n c l) : RdM m w a n c l := by
 refine ⟨h.len, h.le, h.max, h.hnil, fun hn => ?_, h.size⟩
 obtain ⟨b, off, y, e, h1, _⟩ := h.at_ hm 0 hn
 refine ⟨b, off, e, h1, fun j y hy i z hz => ?_⟩
 have := h.cells _ e j y hy i z hz
 rwa [Go.WideShapes.add_plain] at this
def mcs (l : List (List Int)) : List Value := l.flatMap fun y => y.map (Value.int .i64)
theorem mcs_cons (y : List Int) (l : List (List Int)) : mcs (y :: l) = y.map (Value.int .i64) ++ mcs l := rfl
theorem mcs_append (a b : List (List Int)) : mcs (a ++ b) = mcs a ++ mcs b := by simp [mcs]
theorem mcs_length {m : Nat} {l : List (List Int)} (h : ∀ y ∈ l, y.length = m) : (mcs l).length = l.length * m := by
 induction l with
 | nil => simp [mcs]
 | cons y l ih =>
  rw [mcs_cons, List.length_append, List.length_map, ih fun z hz => h z (by simp [hz]), h y (by simp), List.length_cons, Nat.add_mul, Nat.one_mul, Nat.add_comm]
theorem mcs_one (l : List (List Int)) : ∀ u ∈ mcs l, u.oneCell' = true := by
 intro u hu
 obtain ⟨x, _, hx⟩ := List.mem_flatMap.1 hu
 obtain ⟨z, _, rfl⟩ := List.mem_map.1 hx
 rfl
theorem mcs_at {m : Nat} {l : List (List Int)} (h : ∀ y ∈ l, y.length = m) {j : Nat} {y : List Int} (hj : l[j]? = some y) {i : Nat} {z : Int} (hi : y[i]? = some z) : (mcs l)[j * m + i]? = some (.int .i64 z) := by
 induction l generalizing j with
 | nil => simp at hj
 | cons x l ih =>
  have hx := h x (by simp)
  rw [mcs_cons]
  cases j with
  | zero =>
   simp only [List.getElem?_cons_zero, Option.some.injEq] at hj
   subst hj
   have : i < x.length := (List.getElem?_eq_some_iff.1 hi).1
   rw [Nat.zero_mul, Nat.zero_add, List.getElem?_append_left (by simpa using this), List.getElem?_map, hi]
   rfl
  | succ j =>
   rw [List.getElem?_append_right (by rw [List.length_map, hx, Nat.succ_mul]; omega), List.length_map, hx, show (j + 1) * m + i - m = j * m + i by rw [Nat.succ_mul]; omega]
   exact ih (fun z hz => h z (by simp [hz])) (by simpa using hj)
theorem mcs_inv {m : Nat} {l : List (List Int)} (h : ∀ y ∈ l, y.length = m) {k : Nat} {u : Value} (hu : (mcs l)[k]? = some u) : ∃ j i y z, k = j * m + i ∧ l[j]? = some y ∧ y[i]? = some z ∧ u = .int .i64 z := by
 have hk : k < l.length * m := by
  rw [← mcs_length h]
  exact (List.getElem?_eq_some_iff.1 hu).1
 have hm : 0 < m := by
  rcases Nat.eq_zero_or_pos m with h0 | h0
  ·rw [h0] at hk; omega
  ·exact h0
 have hj : k / m < l.length := by rw [Nat.div_lt_iff_lt_mul hm]; exact hk
 have e1 : l[k / m]? = some l[k / m] := List.getElem?_eq_getElem hj
 have hl := h _ (List.mem_of_getElem? e1)
 have e2 : l[k / m][k % m]? = some (l[k / m][k % m]'(by rw [hl]; exact Nat.mod_lt _ hm)) := List.getElem?_eq_getElem _
 have e3 : k = k / m * m + k % m := by rw [Nat.mul_comm]; exact (Nat.div_add_mod k m).symm
 refine ⟨k / m, k % m, _, _, e3, e1, e2, ?_⟩
 have := mcs_at h e1 e2
 rw [← e3, hu] at this
 simpa using this
theorem RdM.src {P : Program} {m : Nat} {w : World} {a : Option Addr} {n c : Nat} {l : List (List Int)} (h : RdM m w a n c l) {t e : TypeId} (ht : P.underlying t = some (.slice e)) : Src P m t (.slice a n c) n (mcs l) w := by
 have h3 := h.len
 cases a with
 | none =>
  have h1 := h.hnil rfl
  have h2 := h.le
  obtain rfl : n = 0 := by omega
  obtain rfl : l = [] := List.eq_nil_of_length_eq_zero h3
  exact Src.ofNil w ht c
 | some x =>
  refine Src.ofSlice w ht x n c (mcs l) (by rw [mcs_length h.size, h3]) (fun j u hu => ?_) (mcs_one l)
  rcases Nat.eq_zero_or_pos n with h0 | h0
  ·obtain rfl : l = [] := List.eq_nil_of_length_eq_zero (by omega)
   simp [mcs] at hu
  ·obtain ⟨b, off, e1, _, h2⟩ := h.pl h0
   cases e1
   rw [Go.WideShapes.add_plain]
   obtain ⟨p, q, y, z, rfl, hp, hq, rfl⟩ := mcs_inv h.size hu
   exact h2 p y hp q z hq
structure OwM (m e : Nat) (w u : World) (v : Value) (l : List (List Int)) : Prop where
 own : u.ownsRow w.heap.size e m v l.length (mcs l)
 bel : Below w.heap.size w u
 size : ∀ y ∈ l, y.length = m
theorem OwM.on {m e : Nat} {w u u' : World} {v : Value} {l : List (List Int)} (h : OwM m e w u v l) (hb : Below u.heap.size u u') : OwM m e w u' v l := ⟨ownsRow_below h.own hb, Below.on h.bel hb, h.size⟩
theorem OwM.base {m e : Nat} {w w0 u : World} {v : Value} {l : List (List Int)} (h : OwM m e w u v l) (hb : Below w0.heap.size w0 w) : OwM m e w0 u v l := ⟨ownsRow_low h.own hb.size, Below.on hb h.bel, h.size⟩
theorem OwM.nil (m e : Nat) (w : World) : OwM m e w w (.slice none 0 0) [] := ⟨World.ownsRow_nil _ _ _ _, Below.refl _ _, by simp⟩
theorem OwM.grown {m e : Nat} {w u u' : World} {v v' : Value} {l k : List (List Int)} (h : OwM m e w u v l) (hk : ∀ y ∈ k, y.length = m) (o2 : u'.ownsRow w.heap.size e m v' (l.length + k.length) (mcs l ++ mcs k)) (g : u.grownBy u' v.ownBlock) : OwM m e w u' v' (l ++ k) :=
 ⟨by rw [List.length_append, mcs_append]; exact o2, h.bel.grown g h.bel.size (fun k hk => (h.own.lt k hk).1), fun y hy => by
  rcases List.mem_append.1 hy with hy | hy
  ·exact h.size y hy
  ·exact hk y hy⟩
theorem OwM.rd {m e : Nat} {w u : World} {v : Value} {l : List (List Int)} (h : OwM m e w u v l) : ∃ a c, v = .slice a l.length c ∧ RdM m u a l.length c l ∧ ∀ x, a = some x → w.heap.size ≤ x.block ∧ x.block < u.heap.size := by
 rcases h.own.2 with ⟨rfl, h0⟩ | ⟨g, cap, cur, rfl, hb, hg, hn, hm, _, _⟩
 ·have hl := List.eq_nil_of_length_eq_zero h0
  subst hl
  exact ⟨none, 0, rfl, RdM.nil m u, fun x hx => by cases hx⟩
 ·refine ⟨some ⟨g, 0, none⟩, cap, rfl, ⟨rfl, hn, hm, (fun h => by cases h), fun _ => ⟨g, 0, rfl, (h.own.lt g rfl).2, fun j y hy i z hz => ?_⟩, h.size⟩, fun x hx => ?_⟩
  ·have hlt : j * m + i < l.length * m := by
    rw [← mcs_length h.size]
    exact (List.getElem?_eq_some_iff.1 (mcs_at h.size hy hz)).1
   rw [Nat.zero_add, h.own.cellAt _ hlt]
   exact mcs_at h.size hy hz
  ·cases hx
   exact ⟨hb, (Array.getElem?_eq_some_iff.1 hg).1⟩
def hd (y : List Int) : Int := y.getD 0 0
theorem hd3 (a b c : Int) : hd [a, b, c] = a := rfl
def ixf (k : Int) : List (List Int) → Option Nat
 | [] => none
 | x :: l => if hd x = k then some 0 else (ixf k l).map (· + 1)
def ixI (k : Int) (l : List (List Int)) : Int := match ixf k l with
 | some i => i
 | none => -1
def put1 : List (List Int) → List Int → List (List Int)
 | [], c => [c]
 | x :: l, c => if hd x = hd c then c :: l else x :: put1 l c
def puts (l m : List (List Int)) : List (List Int) := m.foldl put1 l
def fnd (k : Int) : List (List Int) → Option (List Int)
 | [] => none
 | x :: l => if hd x = k then some x else fnd k l
theorem drop_at' {α : Type} {l : List α} {j : Nat} {x : α} (h : l[j]? = some x) : l.drop j = x :: l.drop (j + 1) := by
 obtain ⟨hj, rfl⟩ := List.getElem?_eq_some_iff.1 h
 exact List.drop_eq_getElem_cons hj
theorem ixf_drop {k : Int} {l : List (List Int)} : ∀ {j : Nat}, (∀ i y, i < j → l[i]? = some y → hd y ≠ k) → ixf k l = (ixf k (l.drop j)).map (· + j)
 | 0, _ => by simp
 | j + 1, h => by
  rw [ixf_drop (j := j) fun i y hi hy => h i y (by omega) hy]
  cases hd' : l[j]? with
  | none =>
   have : l.length ≤ j := List.getElem?_eq_none_iff.1 hd'
   rw [List.drop_eq_nil_of_le this, List.drop_eq_nil_of_le (by omega)]
   rfl
  | some y =>
   rw [drop_at' hd', ixf, if_neg (h j y (by omega) hd')]
   cases ixf k (l.drop (j + 1)) with
   | none => rfl
   | some i => simp; omega
theorem ixf_none {k : Int} : ∀ {l : List (List Int)}, ixf k l = none → (∀ y ∈ l, hd y ≠ k) ∧ fnd k l = none
 | [], _ => ⟨by simp, rfl⟩
 | x :: l, h => by
  rw [ixf] at h
  split at h
  ·cases h
  ·rename_i hx
   obtain ⟨h1, h2⟩ := ixf_none (l := l) (by simpa using h)
   refine ⟨fun y hy => ?_, by rw [fnd, if_neg hx, h2]⟩
   rcases List.mem_cons.1 hy with rfl | hy
   ·exact hx
   ·exact h1 y hy
theorem ixf_some {k : Int} : ∀ {l : List (List Int)} {i : Nat}, ixf k l = some i → i < l.length ∧ fnd k l = l[i]? ∧ ∀ c, hd c = k → put1 l c = l.set i c
 | [], _, h => by cases h
 | x :: l, i, h => by
  rw [ixf] at h
  split at h
  ·rename_i hx
   cases h
   refine ⟨by simp, by rw [fnd, if_pos hx]; rfl, fun c hc => ?_⟩
   rw [put1, if_pos (by rw [hx, hc])]
   rfl
  ·rename_i hx
   obtain ⟨m, hm, rfl⟩ := Option.map_eq_some_iff.1 h
   obtain ⟨h1, h2, h3⟩ := ixf_some hm
   refine ⟨by simpa using h1, by rw [fnd, if_neg hx, h2]; rfl, fun c hc => ?_⟩
   rw [put1, if_neg (by rw [hc]; exact hx), h3 c hc]
   rfl
theorem put1_none {l : List (List Int)} {c : List Int} (h : ∀ y ∈ l, hd y ≠ hd c) : put1 l c = l ++ [c] := by
 induction l with
 | nil => rfl
 | cons x l ih =>
  rw [put1, if_neg (h x (by simp)), ih fun y hy => h y (by simp [hy])]
  rfl
theorem put1_length {l : List (List Int)} {c : List Int} : l.length ≤ (put1 l c).length ∧ (put1 l c).length ≤ l.length + 1 := by
 induction l with
 | nil => simp [put1]
 | cons x l ih =>
  rw [put1]
  split
  ·simp
  ·simp only [List.length_cons]; omega
theorem puts_snoc (l m : List (List Int)) (c : List Int) : puts l (m ++ [c]) = put1 (puts l m) c := by simp [puts]
theorem puts_cons (l m : List (List Int)) (c : List Int) : puts l (c :: m) = puts (put1 l c) m := rfl
theorem puts_length (l m : List (List Int)) : (puts l m).length ≤ l.length + m.length := by
 induction m generalizing l with
 | nil => simp [puts]
 | cons c m ih =>
  have h1 := ih (put1 l c)
  have h2 := (put1_length (l := l) (c := c)).2
  rw [puts_cons]
  simp only [List.length_cons]
  omega
theorem mem_put1 {l : List (List Int)} {c y : List Int} (h : y ∈ put1 l c) : y = c ∨ y ∈ l := by
 induction l with
 | nil => simp [put1] at h; exact .inl h
 | cons x l ih =>
  rw [put1] at h
  split at h
  ·rcases List.mem_cons.1 h with rfl | h
   ·exact .inl rfl
   ·exact .inr (by simp [h])
  ·rcases List.mem_cons.1 h with rfl | h
   ·exact .inr (by simp)
   ·rcases ih h with e | e
    ·exact .inl e
    ·exact .inr (by simp [e])
structure Sq where
 at_ : Bool
 buf : Int
 dm : List (List Int)
 fr : List (List Int)
 inp : Bool
 all : Bool
 rg : List (List Int)
 ord : Bool
 od : List (List Int)
 pl : List (List Int)
def mrg (a b : Sq) : Sq := ⟨a.at_ || b.at_, bif b.at_ then b.buf else a.buf, a.dm ++ b.dm, a.fr ++ b.fr, a.inp || b.inp, bif b.inp then b.all else a.all, bif b.inp then b.rg else a.rg, a.ord || b.ord, bif b.ord then b.od else a.od, puts a.pl b.pl⟩
def apl (a b : Sq) : Sq := { mrg a b with at_ := false, inp := false, ord := false, dm := [] }
def non (s : Sq) : Bool := !s.at_ && (!s.inp && (!s.ord && (s.dm.isEmpty && (s.fr.isEmpty && s.pl.isEmpty))))
def few (s : Sq) : Bool := decide (s.dm.length ≤ 60) && (decide (s.fr.length ≤ 60) && (decide (s.rg.length ≤ 60) && (decide (s.od.length ≤ 60) && decide (s.pl.length ≤ 60))))
def sq0 : Sq := ⟨false, 0, [], [], false, false, [], false, [], []⟩
end
section
def ic (l : List Int) : List Value := l.map (Value.int .i64)
theorem ic_length (l : List Int) : (ic l).length = l.length := by simp [ic]
theorem ic_append (a b : List Int) : ic (a ++ b) = ic a ++ ic b := by simp [ic]
theorem ic_one (l : List Int) : ∀ u ∈ ic l, u.oneCell' = true := by
 intro u hu
 obtain ⟨_, _, rfl⟩ := List.mem_map.1 hu
 rfl
theorem ic_inv {l : List Int} {j : Nat} {u : Value} (h : (ic l)[j]? = some u) : ∃ z, l[j]? = some z ∧ u = .int .i64 z := by
 rw [ic, List.getElem?_map] at h
 obtain ⟨z, hz, rfl⟩ := Option.map_eq_some_iff.1 h
 exact ⟨z, hz, rfl⟩
structure Rz (w : World) (a : Option Addr) (n c : Nat) (l : List Int) : Prop where
 len : l.length = n
 le : n ≤ c
 max : c ≤ maxLen
 hnil : a = none → c = 0
 pl : 0 < n → ∃ b off, a = some ⟨b, off, none⟩ ∧ b < w.heap.size ∧ ∀ j z, l[j]? = some z → w.cell? ⟨b, off + j, none⟩ = some (.int .i64 z)
theorem Rz.on {w u : World} {a : Option Addr} {n c : Nat} {l : List Int} (h : Rz w a n c l) (hb : Below w.heap.size w u) : Rz u a n c l :=
 ⟨h.len, h.le, h.max, h.hnil, fun hn => by
  obtain ⟨b, off, e, h1, h2⟩ := h.pl hn
  exact ⟨b, off, e, Nat.lt_of_lt_of_le h1 hb.size, fun j z hz => by rw [hb.cell h1]; exact h2 j z hz⟩⟩
theorem Rz.drewN {w : World} {a : Option Addr} {n c : Nat} {l : List Int} (h : Rz w a n c l) (q : Nat) : Rz (w.drewN q) a n c l := h.on (below_drewN (Below.refl _ _) q)
theorem Rz.nil (w : World) : Rz w none 0 0 [] := ⟨rfl, Nat.le_refl _, Nat.zero_le _, fun _ => rfl, fun h => absurd h (by omega)⟩
theorem Rz.small {w : World} {a : Option Addr} {n c : Nat} {l : List Int} (h : Rz w a n c l) : n ≤ 9223372036854775807 ∧ c ≤ 9223372036854775807 := by
 have h1 := h.le
 have h2 := h.max
 simp only [maxLen] at h2
 omega
theorem Rz.at_ {w : World} {a : Option Addr} {n c : Nat} {l : List Int} (h : Rz w a n c l) {j : Nat} (hj : j < n) : ∃ b off z, a = some ⟨b, off, none⟩ ∧ b < w.heap.size ∧ l[j]? = some z ∧ w.cell? ⟨b, off + j, none⟩ = some (.int .i64 z) := by
 have hl := h.len
 obtain ⟨b, off, e, h1, h2⟩ := h.pl (by omega)
 have hr : l[j]? = some l[j] := List.getElem?_eq_getElem (by omega)
 exact ⟨b, off, _, e, h1, hr, h2 j _ hr⟩
theorem Rz.take {w : World} {a : Option Addr} {n c : Nat} {l : List Int} (h : Rz w a n c l) (k : Nat) (hk : k ≤ n) : Rz w a k c (l.take k) :=
 ⟨by rw [List.length_take, h.len]; omega, Nat.le_trans hk h.le, h.max, h.hnil, fun h0 => by
  obtain ⟨b, off, e, h1, h2⟩ := h.pl (by omega)
  refine ⟨b, off, e, h1, fun j z hz => h2 j z ?_⟩
  rw [List.getElem?_take] at hz
  split at hz
  ·exact hz
  ·cases hz⟩
theorem Rz.drop {w : World} {b off : Nat} {n c : Nat} {l : List Int} (h : Rz w (some ⟨b, off, none⟩) n c l) (k : Nat) (hk : k ≤ n) : Rz w (some ⟨b, off + k, none⟩) (n - k) (c - k) (l.drop k) :=
 ⟨by rw [List.length_drop, h.len], by have := h.le; omega, by have := h.max; omega, (fun h => by cases h), fun h0 => by
  obtain ⟨b', off', e, h1, h2⟩ := h.pl (by omega)
  cases e
  refine ⟨b, off + k, rfl, h1, fun j z hz => ?_⟩
  rw [List.getElem?_drop] at hz
  rw [Nat.add_assoc]
  exact h2 (k + j) z hz⟩
theorem Rz.zero (w : World) (a : Option Addr) : Rz w a 0 0 [] := ⟨rfl, Nat.le_refl _, Nat.zero_le _, fun _ => rfl, fun h => absurd h (by omega)⟩
theorem Rz.src {P : Program} {w : World} {a : Option Addr} {n c : Nat} {l : List Int} (h : Rz w a n c l) {t e : TypeId} (ht : P.underlying t = some (.slice e)) : Src P 1 t (.slice a n c) n (ic l) w := by
 have h3 := h.len
 cases a with
 | none =>
  have h1 := h.hnil rfl
  have h2 := h.le
  obtain rfl : n = 0 := by omega
  obtain rfl : l = [] := List.eq_nil_of_length_eq_zero h3
  exact Src.ofNil w ht c
 | some x =>
  refine Src.ofSlice w ht x n c (ic l) (by rw [ic_length, h3, Nat.mul_one]) (fun j u hu => ?_) (ic_one l)
  obtain ⟨z, hz, rfl⟩ := ic_inv hu
  have hj := (List.getElem?_eq_some_iff.1 hz).1
  obtain ⟨b, off, e1, _, h2⟩ := h.pl (by omega)
  cases e1
  rw [Go.WideShapes.add_plain]
  exact h2 j z hz
theorem Rz.copies {w : World} {a : Option Addr} {n c : Nat} {l : List Int} (h : Rz w a n c l) : 0 < (ic l).length → ∃ ad, a = some ad ∧ ∀ j v, (ic l)[j]? = some v → w.cell? (ad.add j) = some v := fun h0 => by
 rw [ic_length, h.len] at h0
 obtain ⟨b, off, e, _, h2⟩ := h.pl h0
 refine ⟨_, e, fun j v hv => ?_⟩
 obtain ⟨z, hz, rfl⟩ := ic_inv hv
 rw [Go.WideShapes.add_plain]
 exact h2 j z hz
structure OwZ (w u : World) (v : Value) (l : List Int) : Prop where
 own : u.ownsRow w.heap.size 3 1 v l.length (ic l)
 bel : Below w.heap.size w u
theorem OwZ.on {w u u' : World} {v : Value} {l : List Int} (h : OwZ w u v l) (hb : Below u.heap.size u u') : OwZ w u' v l := ⟨ownsRow_below h.own hb, Below.on h.bel hb⟩
theorem OwZ.base {w w0 u : World} {v : Value} {l : List Int} (h : OwZ w u v l) (hb : Below w0.heap.size w0 w) : OwZ w0 u v l := ⟨ownsRow_low h.own hb.size, Below.on hb h.bel⟩
theorem OwZ.nil (w : World) : OwZ w w (.slice none 0 0) [] := ⟨World.ownsRow_nil _ _ _ _, Below.refl _ _⟩
theorem OwZ.grown {w u u' : World} {v v' : Value} {l k : List Int} {m : Nat} (h : OwZ w u v l) (hm : k.length = m) (o2 : u'.ownsRow w.heap.size 3 1 v' (l.length + m) (ic l ++ ic k)) (g : u.grownBy u' v.ownBlock) : OwZ w u' v' (l ++ k) :=
 ⟨by rw [List.length_append, ic_append, hm]; exact o2, h.bel.grown g h.bel.size (fun k hk => (h.own.lt k hk).1)⟩
theorem OwZ.rd {w u : World} {v : Value} {l : List Int} (h : OwZ w u v l) : ∃ a c, v = .slice a l.length c ∧ Rz u a l.length c l ∧ ∀ x, a = some x → w.heap.size ≤ x.block ∧ x.block < u.heap.size := by
 rcases h.own.2 with ⟨rfl, h0⟩ | ⟨g, cap, cur, rfl, hb, hg, hn, hm, _, _⟩
 ·have hl := List.eq_nil_of_length_eq_zero h0
  subst hl
  exact ⟨none, 0, rfl, Rz.nil u, fun x hx => by cases hx⟩
 ·refine ⟨some ⟨g, 0, none⟩, cap, rfl, ⟨rfl, hn, hm, (fun h => by cases h), fun _ => ⟨g, 0, rfl, (h.own.lt g rfl).2, fun j z hz => ?_⟩⟩, fun x hx => ?_⟩
  ·have hj := (List.getElem?_eq_some_iff.1 hz).1
   rw [Nat.zero_add, h.own.cellAt _ (by omega), ic, List.getElem?_map, hz]
   rfl
  ·cases hx
   exact ⟨hb, (Array.getElem?_eq_some_iff.1 hg).1⟩
theorem infoZ : (Tryz.prog.info? 3).map (fun i => (i.zero, i.size, i.bytes)) = some (some (.int .i64 0), 1, 8) := by kernel_rfl
theorem infoZp : ∃ i, Tryz.prog.info? 3 = some i ∧ i.zero = some (.int .i64 0) ∧ i.size = 1 ∧ i.bytes = 8 := by
 obtain ⟨i, h1, h2⟩ := Option.map_eq_some_iff.1 infoZ
 simp only [Prod.mk.injEq] at h2
 exact ⟨i, h1, h2.1, h2.2.1, h2.2.2⟩
theorem sizeZ : (Tryz.prog.info? 3).map (·.size) = some 1 := by
 obtain ⟨i, hi, _, h1, _⟩ := infoZp
 rw [hi]
 exact congrArg some h1
theorem fitsZ {need : Nat} (h : need ≤ 2000000000) : ∀ old, old < need → Builtin.nextslicecap need old * 8 ≤ 281474976710656 := fun old ho => by
 have := nextslicecap_near ho
 omega
theorem makeZ (w : World) (n : Nat) (hn : n ≤ 2000000000) : ∃ w1, (Instr.makeSlice 40 (.int .i64 (n : Int)) (.int .i64 (n : Int))).run Tryz.prog w = .ok (.slice (some ⟨w.heap.size, 0, none⟩) n n) w1 ∧ Below w.heap.size w w1 ∧ w1.heap[w.heap.size]? = some (.cells (ic (List.replicate n 0)).toArray 3 (0, 0)) := by
 obtain ⟨i0, hi, hz0, hz1, hz2⟩ := infoZp
 obtain ⟨w1, hmk, ho1, hg1⟩ := run_make_full (P := Tryz.prog) w w.heap.size 40 3 i0 (.int .i64 0) 1 Tryz.underlying40 hi hz0 hz1 .i64 .i64 n (by rw [hz2]; omega) (by simp only [maxLen]; omega) (Nat.le_refl _)
 refine ⟨w1, hmk, (Below.refl _ _).grown hg1 (Nat.le_refl _) (fun k hk => by cases hk), ?_⟩
 have e : (madeCells (Value.int .i64 0).cells (n * 1)).toList = ic (List.replicate n 0) := by
  rw [Nat.mul_one, ic, List.map_replicate]
  exact toList_madeCells_one _ n
 rw [e] at ho1
 rcases ho1.2 with ⟨h, _⟩ | ⟨g, cap, cur, hv, _, hg, _, _, hs, ht⟩
 ·cases h
 ·cases hv
  rw [hg, ← ht, List.take_of_length_le (by rw [Array.length_toList, hs]; omega)]
theorem make0Z (w : World) (n : Nat) (hn : n ≤ 2000000000) : ∃ w1, (Instr.makeSlice 40 (.int .i64 0) (.int .i64 (n : Int))).run Tryz.prog w = .ok (.slice (some ⟨w.heap.size, 0, none⟩) 0 n) w1 ∧ OwZ w w1 (.slice (some ⟨w.heap.size, 0, none⟩) 0 n) [] := by
 obtain ⟨i0, hi, hz0, hz1, hz2⟩ := infoZp
 have hr := run_make (P := Tryz.prog) w 40 3 i0 (.int .i64 0) Tryz.underlying40 hi hz0 .i64 .i64 0 n (by omega) (by omega) (by rw [hz2]; omega) (by omega)
 simp only [Int.toNat_natCast] at hr
 refine ⟨_, hr, ⟨⟨rfl, .inr ⟨w.heap.size, n, _, rfl, Nat.le_refl _, heap_alloc_new w _, Nat.zero_le _, by simp only [maxLen]; omega, by rw [size_madeCells, hz1], by rfl⟩⟩, (Below.refl _ _).alloc (Nat.le_refl _) _⟩⟩
theorem OwZ.alloc {w u : World} {v : Value} {l : List Int} (h : OwZ w u v l) (o : Obj) : OwZ w (u.alloc o) v l := h.on ((Below.refl _ _).alloc (Nat.le_refl _) _)
theorem srcLit (w : World) (z : Int) : Src Tryz.prog 1 40 (.slice (some ⟨w.heap.size, 0, none⟩) 1 1) 1 (ic [z]) (w.alloc (.cells #[.int .i64 z] 3)) :=
 Src.ofSlice (P := Tryz.prog) _ Tryz.underlying40 ⟨w.heap.size, 0, none⟩ 1 1 (ic [z]) rfl (fun q u hu => by
  match q, hu with
  | 0, hu => cases hu; simp [Addr.add]
  | q + 1, hu => simp [ic] at hu) (ic_one _)
theorem rz_lit {x : World} {g : Nat} {l : List Int} {fr : Nat × Nat} (h : x.heap[g]? = some (.cells (ic l).toArray 3 fr)) (hn : l.length ≤ maxLen) : Rz x (some ⟨g, 0, none⟩) l.length l.length l :=
 ⟨rfl, Nat.le_refl _, hn, (fun h => by cases h), fun _ => ⟨g, 0, rfl, (Array.getElem?_eq_some_iff.1 h).1, fun j z hz => by
  rw [Nat.zero_add, cell_of_row x g j _ _ _ h, List.getElem?_toArray, ic, List.getElem?_map, hz]
  rfl⟩⟩
theorem drop_atZ {α : Type} {l : List α} {j : Nat} {x : α} (h : l[j]? = some x) : l.drop j = x :: l.drop (j + 1) := by
 obtain ⟨hj, rfl⟩ := List.getElem?_eq_some_iff.1 h
 exact List.drop_eq_getElem_cons hj
def zeq (l m : List Int) : Bool := decide (l = m)
theorem zeq_cons (x y : Int) (l m : List Int) : zeq (x :: l) (y :: m) = ((x == y) && zeq l m) := by
 unfold zeq
 rw [Bool.eq_iff_iff]
 simp
theorem zeq_len {l m : List Int} (h : l.length ≠ m.length) : zeq l m = false := by
 unfold zeq
 rw [decide_eq_false_iff_not]
 intro e
 exact h (by rw [e])
theorem zeq_same (l : List Int) : zeq l l = true := decide_eq_true rfl
theorem samez_any (a a' : Option Addr) (n c n' c' : Nat) (l m : List Int) (w : World) (h : Rz w a n c l) (h' : Rz w a' n' c' m) :
  Calls Tryz.prog 21 #[.slice a n c, .slice a' n' c'] w fun e w' => e = .returned (.bool (zeq l m)) ∧ ∃ q, w' = w.drewN q := by
 have hl := h.len
 have hl' := h'.len
 have hn63 := h.small.1
 have hn63' := h'.small.1
 by_cases hnn : n = n'
 ·subst hnn
  have H := hid h
  have H' := hid h'
  have HL := hid hl
  have HL' := hid hl'
  clear h h' hl hl'
  go_enter Tryz.func21, Tryz.ntmps21
  go_wp2
  go_loopw [5] (fun i wr => ∃ j : Nat, i = .int .i64 j ∧ j ≤ n ∧ zeq (l.drop j) (m.drop j) = zeq l m ∧ ∃ q, wr = w.drewN q) (fun i _ => n - (numOf i).toNat)
  case atStart => exact ⟨0, rfl, by omega, rfl, 0, rfl⟩
  case round =>
   obtain ⟨j, rfl, hj, hq, q, rfl⟩ := hrel
   by_cases hgo : j < n
   ·have e1 : decide ((j : Int) < n) = true := decide_eq_true (by omega)
    have e2 : (j : Int) < n := by omega
    obtain ⟨blx, offx, x0, rfl, _, hx, c0⟩ := H.out.at_ hgo
    obtain ⟨bly, offy, y0, rfl, _, hy, d0⟩ := H'.out.at_ hgo
    have HD : Hid (zeq l m = ((x0 == y0) && zeq (l.drop (j + 1)) (m.drop (j + 1)))) := by
     rw [Hid, ← hq, drop_atZ hx, drop_atZ hy, zeq_cons]
    clear hx hy hq
    have hn0 : (x0 != y0) = !(x0 == y0) := rfl
    cases hs : (x0 == y0)
    ·rw [hs] at hn0
     have HE : Hid (zeq l m = false) := by rw [Hid, HD.out, hs]; rfl
     clear HD
     go_wp2
     go_quiet (fail)
     go_wp2
     go_ret
     rw [HE.out, World.drewN_drewN]
     exact ⟨rfl, _, rfl⟩
    ·rw [hs] at hn0
     have HE : Hid (zeq (l.drop (j + 1)) (m.drop (j + 1)) = zeq l m) := by rw [Hid, HD.out, hs]; rfl
     clear HD
     go_wp2
     go_quiet (fail)
     go_wp2
     go_roundw
     case rel => exact ⟨j + 1, by go_num, by omega, HE.out, _, rfl⟩
     case measure => simp [numOf]; omega
   ·have e1 : decide ((j : Int) < n) = false := decide_eq_false (by omega)
    have HE : Hid (zeq l m = true) := by
     rw [Hid, ← hq, List.drop_eq_nil_of_le (by rw [HL.out]; omega), List.drop_eq_nil_of_le (by rw [HL'.out]; omega)]
     rfl
    clear hq
    go_wp2
    go_ret
    rw [HE.out]
    exact ⟨rfl, _, rfl⟩
 ·have HE : Hid (zeq l m = false) := zeq_len (by omega)
  have e1 : ((n : Int) == n') = false := by simp; omega
  clear h h' hl hl'
  go_enter Tryz.func21, Tryz.ntmps21
  go_wp2
  go_ret
  rw [HE.out]
  exact ⟨rfl, 0, rfl⟩
end
section
def zx (k : Int) : List Int → Option Nat
 | [] => none
 | x :: l => if x = k then some 0 else (zx k l).map (· + 1)
def dr (k : Int) (l : List Int) : List Int := l.filter fun z => z != k
def ins (l : List Int) (i : Nat) (z : Int) : List Int := l.take i ++ z :: l.drop i
theorem zx_drop {k : Int} {l : List Int} : ∀ {j : Nat}, (∀ i y, i < j → l[i]? = some y → y ≠ k) → zx k l = (zx k (l.drop j)).map (· + j)
 | 0, _ => by simp
 | j + 1, h => by
  rw [zx_drop (j := j) fun i y hi hy => h i y (by omega) hy]
  cases hd' : l[j]? with
  | none =>
   have : l.length ≤ j := List.getElem?_eq_none_iff.1 hd'
   rw [List.drop_eq_nil_of_le this, List.drop_eq_nil_of_le (by omega)]
   rfl
  | some y =>
   rw [drop_atZ hd', zx, if_neg (h j y (by omega) hd')]
   cases zx k (l.drop (j + 1)) with
   | none => rfl
   | some i => simp; omega
theorem dr_cons (k x : Int) (l : List Int) : dr k (x :: l) = if x = k then dr k l else x :: dr k l := by
 unfold dr
 rw [List.filter_cons]
 by_cases h : x = k <;> simp [h]
theorem dr_append (k : Int) (l m : List Int) : dr k (l ++ m) = dr k l ++ dr k m := List.filter_append ..
theorem dr_length (k : Int) (l : List Int) : (dr k l).length ≤ l.length := List.length_filter_le ..
theorem mem_dr {k y : Int} {l : List Int} : y ∈ dr k l ↔ y ∈ l ∧ y ≠ k := by simp [dr, List.mem_filter]
theorem dr_not {k : Int} {l : List Int} (h : k ∉ l) : dr k l = l := by
 unfold dr
 rw [List.filter_eq_self]
 intro z hz
 simp only [bne_iff_ne, ne_eq]
 intro e
 exact h (e ▸ hz)
theorem zx_none {k : Int} : ∀ {l : List Int}, zx k l = none ↔ k ∉ l
 | [] => by simp [zx]
 | x :: l => by
  rw [zx]
  by_cases hx : x = k
  ·simp [hx]
  ·rw [if_neg hx, Option.map_eq_none_iff, zx_none (l := l), List.mem_cons, not_or]
   exact ⟨fun h => ⟨fun e => hx e.symm, h⟩, fun h => h.2⟩
theorem zx_some {k : Int} : ∀ {l : List Int} {i : Nat}, zx k l = some i → i < l.length ∧ l[i]? = some k ∧ dr k l = l.take i ++ dr k (l.drop (i + 1)) ∧ k ∉ l.take i
 | [], _, h => by cases h
 | x :: l, i, h => by
  rw [zx] at h
  split at h
  ·rename_i hx
   cases h
   refine ⟨by simp, by simp [hx], ?_, by simp⟩
   rw [dr_cons, if_pos hx]
   rfl
  ·rename_i hx
   obtain ⟨m, hm, rfl⟩ := Option.map_eq_some_iff.1 h
   obtain ⟨h1, h2, h3, h4⟩ := zx_some hm
   refine ⟨by simpa using h1, by simpa using h2, ?_, ?_⟩
   ·rw [dr_cons, if_neg hx, h3]
    rfl
   ·rw [List.take_succ_cons, List.mem_cons, not_or]
    exact ⟨fun e => hx e.symm, h4⟩
def bes (l : List Int) (id by_ : Int) (b : Nat) : Option (List Int) :=
 match zx id l with
 | none => none
 | some _ => (zx by_ (dr id l)).map fun i => ins (dr id l) (i + b) id
theorem ins_length (l : List Int) (i : Nat) (z : Int) : (ins l i z).length = l.length + 1 := by
 have e : l.length = (l.take i).length + (l.drop i).length := by rw [← List.length_append, List.take_append_drop]
 unfold ins
 rw [List.length_append, List.length_cons]
 omega
theorem ins_end (l : List Int) (z : Int) : ins l l.length z = l ++ [z] := by simp [ins]
theorem bes_doc (l : List Int) (id by_ : Int) (b : Nat) : bes l id by_ b = if id = by_ ∨ zx id l = none ∨ zx by_ l = none then none else (zx by_ (dr id l)).map fun i => ins (dr id l) (i + b) id := by
 unfold bes
 cases h1 : zx id l with
 | none => rw [if_pos (.inr (.inl rfl))]
 | some k =>
  by_cases h2 : id = by_
  ·rw [if_pos (.inl h2)]
   have : zx by_ (dr id l) = none := zx_none.2 (fun h => (mem_dr.1 h).2 h2.symm)
   show Option.map _ (zx by_ (dr id l)) = none
   rw [this]
   rfl
  ·by_cases h3 : zx by_ l = none
   ·rw [if_pos (.inr (.inr h3))]
    have : zx by_ (dr id l) = none := zx_none.2 (fun h => zx_none.1 h3 (mem_dr.1 h).1)
    show Option.map _ (zx by_ (dr id l)) = none
    rw [this]
    rfl
   ·rw [if_neg (by
     rintro (h | h | h)
     ·exact h2 h
     ·cases h
     ·exact h3 h)]
theorem zx_at {k y : Int} {l : List Int} {j : Nat} (h : l[j]? = some y) : zx k (l.drop j) = if y = k then some 0 else (zx k (l.drop (j + 1))).map (· + 1) := by
 rw [drop_atZ h, zx]
end
end Go.Proofs.YtdgknofpkafppaaGreatDoor
