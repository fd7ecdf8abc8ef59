/- Slices of whole numbers (int), read and of a call's own: cut, joined, made, compared. Over any program that has []int. -/
import Derived.Test.YthoonceohipikaaLibK
import Derived.Test.YthoonceohipikaaLibA
import Derived.Test.YthoonceohipikaaChecked
import Derived.Laws.OwnMore
import Derived.Laws.CopyOwn
import Derived.Deep.DeepCutAuto
import Derived.Deep.CutRange
import Derived.BigQuiet
import Derived.Test.YthoonceohipikaaLibS
namespace Go.Proofs.Ythoonceohipikaa
open Go Go.RowKit

/-- Numbers as cells. -/
def ic (l : List Int) : List Value := l.map (Value.int .i64)
theorem ic_length (l : List Int) : (ic l).length = l.length := by simp [ic]
theorem ic_append (a b : List Int) : ic (a ++ b) = ic a ++ ic b := by simp [ic]
theorem ic_one (l : List Int) : ∀ u ∈ ic l, u.oneCell' = true := by
  intro u hu
  obtain ⟨_, _, rfl⟩ := List.mem_map.1 hu
  rfl
theorem ic_inv {l : List Int} {j : Nat} {u : Value} (h : (ic l)[j]? = some u) : ∃ z, l[j]? = some z ∧ u = .int .i64 z := by
  rw [ic, List.getElem?_map] at h
  obtain ⟨z, hz, rfl⟩ := Option.map_eq_some_iff.1 h
  exact ⟨z, hz, rfl⟩

/-- A slice whose first n cells are the numbers l. -/
structure Rz (w : World) (a : Option Addr) (n c : Nat) (l : List Int) : Prop where
  len : l.length = n
  le : n ≤ c
  max : c ≤ maxLen
  hnil : a = none → c = 0
  pl : 0 < n → ∃ b off, a = some ⟨b, off, none⟩ ∧ b < w.heap.size ∧ ∀ j z, l[j]? = some z → w.cell? ⟨b, off + j, none⟩ = some (.int .i64 z)

theorem Rz.on {w u : World} {a : Option Addr} {n c : Nat} {l : List Int} (h : Rz w a n c l) (hb : Below w.heap.size w u) : Rz u a n c l :=
  ⟨h.len, h.le, h.max, h.hnil, fun hn => by
    obtain ⟨b, off, e, h1, h2⟩ := h.pl hn
    exact ⟨b, off, e, Nat.lt_of_lt_of_le h1 hb.size, fun j z hz => by rw [hb.cell h1]; exact h2 j z hz⟩⟩
theorem Rz.drewN {w : World} {a : Option Addr} {n c : Nat} {l : List Int} (h : Rz w a n c l) (q : Nat) : Rz (w.drewN q) a n c l := h.on (below_drewN (Below.refl _ _) q)
theorem Rz.nil (w : World) : Rz w none 0 0 [] := ⟨rfl, Nat.le_refl _, Nat.zero_le _, fun _ => rfl, fun h => absurd h (by omega)⟩
theorem Rz.small {w : World} {a : Option Addr} {n c : Nat} {l : List Int} (h : Rz w a n c l) : n ≤ 9223372036854775807 ∧ c ≤ 9223372036854775807 := by
  have h1 := h.le
  have h2 := h.max
  simp only [maxLen] at h2
  omega
theorem Rz.at_ {w : World} {a : Option Addr} {n c : Nat} {l : List Int} (h : Rz w a n c l) {j : Nat} (hj : j < n) : ∃ b off z, a = some ⟨b, off, none⟩ ∧ b < w.heap.size ∧ l[j]? = some z ∧ w.cell? ⟨b, off + j, none⟩ = some (.int .i64 z) := by
  have hl := h.len
  obtain ⟨b, off, e, h1, h2⟩ := h.pl (by omega)
  have hr : l[j]? = some l[j] := List.getElem?_eq_getElem (by omega)
  exact ⟨b, off, _, e, h1, hr, h2 j _ hr⟩
/-- 'l[:k]'. -/
theorem Rz.take {w : World} {a : Option Addr} {n c : Nat} {l : List Int} (h : Rz w a n c l) (k : Nat) (hk : k ≤ n) : Rz w a k c (l.take k) :=
  ⟨by rw [List.length_take, h.len]; omega, Nat.le_trans hk h.le, h.max, h.hnil, fun h0 => by
    obtain ⟨b, off, e, h1, h2⟩ := h.pl (by omega)
    refine ⟨b, off, e, h1, fun j z hz => h2 j z ?_⟩
    rw [List.getElem?_take] at hz
    split at hz
    · exact hz
    · cases hz⟩
/-- 'l[k:]', where something is left of the room. -/
theorem Rz.drop {w : World} {b off : Nat} {n c : Nat} {l : List Int} (h : Rz w (some ⟨b, off, none⟩) n c l) (k : Nat) (hk : k ≤ n) : Rz w (some ⟨b, off + k, none⟩) (n - k) (c - k) (l.drop k) :=
  ⟨by rw [List.length_drop, h.len], by have := h.le; omega, by have := h.max; omega, (fun h => by cases h), fun h0 => by
    obtain ⟨b', off', e, h1, h2⟩ := h.pl (by omega)
    cases e
    refine ⟨b, off + k, rfl, h1, fun j z hz => ?_⟩
    rw [List.getElem?_drop] at hz
    rw [Nat.add_assoc]
    exact h2 (k + j) z hz⟩
theorem Rz.zero (w : World) (a : Option Addr) : Rz w a 0 0 [] := ⟨rfl, Nat.le_refl _, Nat.zero_le _, fun _ => rfl, fun h => absurd h (by omega)⟩
theorem rz_of_rdi {w : World} {a : Option Addr} {n c : Nat} {l : List Int} (h : RdI .i64 w a n c l) : Rz w a n c l :=
  ⟨h.len, h.le, h.max, h.hnil, fun hn => by
    obtain ⟨b, off, e, h1, h2⟩ := h.plain hn
    refine ⟨b, off, e, h1, fun j z hz => ?_⟩
    rw [h2 j (List.getElem?_eq_some_iff.1 hz).1, List.getD, hz]
    rfl⟩

/-- What is appended by 'append(x, l...)'. -/
theorem Rz.src {P : Program} {w : World} {a : Option Addr} {n c : Nat} {l : List Int} (h : Rz w a n c l) {t e : TypeId} (ht : P.underlying t = some (.slice e)) : Src P 1 t (.slice a n c) n (ic l) w := by
  have h3 := h.len
  cases a with
  | none =>
    have h1 := h.hnil rfl
    have h2 := h.le
    obtain rfl : n = 0 := by omega
    obtain rfl : l = [] := List.eq_nil_of_length_eq_zero h3
    exact Src.ofNil w ht c
  | some x =>
    refine Src.ofSlice w ht x n c (ic l) (by rw [ic_length, h3, Nat.mul_one]) (fun j u hu => ?_) (ic_one l)
    obtain ⟨z, hz, rfl⟩ := ic_inv hu
    have hj := (List.getElem?_eq_some_iff.1 hz).1
    obtain ⟨b, off, e1, _, h2⟩ := h.pl (by omega)
    cases e1
    rw [Go.WideShapes.add_plain]
    exact h2 j z hz
/-- What is copied. -/
theorem Rz.copies {w : World} {a : Option Addr} {n c : Nat} {l : List Int} (h : Rz w a n c l) : 0 < (ic l).length → ∃ ad, a = some ad ∧ ∀ j v, (ic l)[j]? = some v → w.cell? (ad.add j) = some v := fun h0 => by
  rw [ic_length, h.len] at h0
  obtain ⟨b, off, e, _, h2⟩ := h.pl h0
  refine ⟨_, e, fun j v hv => ?_⟩
  obtain ⟨z, hz, rfl⟩ := ic_inv hv
  rw [Go.WideShapes.add_plain]
  exact h2 j z hz

/-- A row of numbers of the call's own; the call began in w. -/
structure OwZ (w u : World) (v : Value) (l : List Int) : Prop where
  own : u.ownsRow w.heap.size 3 1 v l.length (ic l)
  bel : Below w.heap.size w u
theorem OwZ.on {w u u' : World} {v : Value} {l : List Int} (h : OwZ w u v l) (hb : Below u.heap.size u u') : OwZ w u' v l := ⟨ownsRow_below h.own hb, Below.on h.bel hb⟩
theorem OwZ.base {w w0 u : World} {v : Value} {l : List Int} (h : OwZ w u v l) (hb : Below w0.heap.size w0 w) : OwZ w0 u v l := ⟨ownsRow_low h.own hb.size, Below.on hb h.bel⟩
theorem OwZ.nil (w : World) : OwZ w w (.slice none 0 0) [] := ⟨World.ownsRow_nil _ _ _ _, Below.refl _ _⟩
theorem OwZ.grown {w u u' : World} {v v' : Value} {l k : List Int} {m : Nat} (h : OwZ w u v l) (hm : k.length = m) (o2 : u'.ownsRow w.heap.size 3 1 v' (l.length + m) (ic l ++ ic k)) (g : u.grownBy u' v.ownBlock) : OwZ w u' v' (l ++ k) :=
  ⟨by rw [List.length_append, ic_append, hm]; exact o2, h.bel.grown g h.bel.size (fun k hk => (h.own.lt k hk).1)⟩
theorem OwZ.rd {w u : World} {v : Value} {l : List Int} (h : OwZ w u v l) : ∃ a c, v = .slice a l.length c ∧ Rz u a l.length c l ∧ ∀ x, a = some x → w.heap.size ≤ x.block ∧ x.block < u.heap.size := by
  rcases h.own.2 with ⟨rfl, h0⟩ | ⟨g, cap, cur, rfl, hb, hg, hn, hm, _, _⟩
  · have hl := List.eq_nil_of_length_eq_zero h0
    subst hl
    exact ⟨none, 0, rfl, Rz.nil u, fun x hx => by cases hx⟩
  · refine ⟨some ⟨g, 0, none⟩, cap, rfl, ⟨rfl, hn, hm, (fun h => by cases h), fun _ => ⟨g, 0, rfl, (h.own.lt g rfl).2, fun j z hz => ?_⟩⟩, fun x hx => ?_⟩
    · have hj := (List.getElem?_eq_some_iff.1 hz).1
      rw [Nat.zero_add, h.own.cellAt _ (by omega), ic, List.getElem?_map, hz]
      rfl
    · cases hx
      exact ⟨hb, (Array.getElem?_eq_some_iff.1 hg).1⟩

theorem infoZ : (Try.prog.info? 3).map (fun i => (i.zero, i.size, i.bytes)) = some (some (.int .i64 0), 1, 8) := by kernel_rfl
theorem infoZp : ∃ i, Try.prog.info? 3 = some i ∧ i.zero = some (.int .i64 0) ∧ i.size = 1 ∧ i.bytes = 8 := by
  obtain ⟨i, h1, h2⟩ := Option.map_eq_some_iff.1 infoZ
  simp only [Prod.mk.injEq] at h2
  exact ⟨i, h1, h2.1, h2.2.1, h2.2.2⟩
theorem sizeZ : (Try.prog.info? 3).map (·.size) = some 1 := by
  obtain ⟨i, hi, _, h1, _⟩ := infoZp
  rw [hi]
  exact congrArg some h1
theorem fitsZ {need : Nat} (h : need ≤ 2000000000) : ∀ old, old < need → Builtin.nextslicecap need old * 8 ≤ 281474976710656 := fun old ho => by
  have := nextslicecap_near ho
  omega

/-- 'make([]int, n)': n noughts, in a block of its own. -/
theorem makeZ (w : World) (n : Nat) (hn : n ≤ 2000000000) : ∃ w1, (Instr.makeSlice 38 (.int .i64 (n : Int)) (.int .i64 (n : Int))).run Try.prog w = .ok (.slice (some ⟨w.heap.size, 0, none⟩) n n) w1 ∧ Below w.heap.size w w1 ∧ w1.heap[w.heap.size]? = some (.cells (ic (List.replicate n 0)).toArray 3 (0, 0)) := by
  obtain ⟨i0, hi, hz0, hz1, hz2⟩ := infoZp
  obtain ⟨w1, hmk, ho1, hg1⟩ := run_make_full (P := Try.prog) w w.heap.size 38 3 i0 (.int .i64 0) 1 Try.underlying38 hi hz0 hz1 .i64 .i64 n (by rw [hz2]; omega) (by simp only [maxLen]; omega) (Nat.le_refl _)
  refine ⟨w1, hmk, (Below.refl _ _).grown hg1 (Nat.le_refl _) (fun k hk => by cases hk), ?_⟩
  have e : (madeCells (Value.int .i64 0).cells (n * 1)).toList = ic (List.replicate n 0) := by
    rw [Nat.mul_one, ic, List.map_replicate]
    exact toList_madeCells_one _ n
  rw [e] at ho1
  rcases ho1.2 with ⟨h, _⟩ | ⟨g, cap, cur, hv, _, hg, _, _, hs, ht⟩
  · cases h
  · cases hv
    rw [hg, ← ht, List.take_of_length_le (by rw [Array.length_toList, hs]; omega)]
/-- 'make([]int, 0, n)'. -/
theorem make0Z (w : World) (n : Nat) (hn : n ≤ 2000000000) : ∃ w1, (Instr.makeSlice 38 (.int .i64 0) (.int .i64 (n : Int))).run Try.prog w = .ok (.slice (some ⟨w.heap.size, 0, none⟩) 0 n) w1 ∧ OwZ w w1 (.slice (some ⟨w.heap.size, 0, none⟩) 0 n) [] := by
  obtain ⟨i0, hi, hz0, hz1, hz2⟩ := infoZp
  have hr := run_make (P := Try.prog) w 38 3 i0 (.int .i64 0) Try.underlying38 hi hz0 .i64 .i64 0 n (by omega) (by omega) (by rw [hz2]; omega) (by omega)
  simp only [Int.toNat_natCast] at hr
  refine ⟨_, hr, ⟨⟨rfl, .inr ⟨w.heap.size, n, _, rfl, Nat.le_refl _, heap_alloc_new w _, Nat.zero_le _, by simp only [maxLen]; omega, by rw [size_madeCells, hz1], by rfl⟩⟩, (Below.refl _ _).alloc (Nat.le_refl _) _⟩⟩

theorem OwZ.alloc {w u : World} {v : Value} {l : List Int} (h : OwZ w u v l) (o : Obj) : OwZ w (u.alloc o) v l := h.on ((Below.refl _ _).alloc (Nat.le_refl _) _)
/-- A literal's row of one, as it is appended. -/
theorem srcLit (w : World) (z : Int) : Src Try.prog 1 38 (.slice (some ⟨w.heap.size, 0, none⟩) 1 1) 1 (ic [z]) (w.alloc (.cells #[.int .i64 z] 3)) :=
  Src.ofSlice (P := Try.prog) _ Try.underlying38 ⟨w.heap.size, 0, none⟩ 1 1 (ic [z]) rfl (fun q u hu => by
    match q, hu with
    | 0, hu => cases hu; simp [Addr.add]
    | q + 1, hu => simp [ic] at hu) (ic_one _)
/-- A literal's row. -/
theorem rz_lit {x : World} {g : Nat} {l : List Int} {fr : Nat × Nat} (h : x.heap[g]? = some (.cells (ic l).toArray 3 fr)) (hn : l.length ≤ maxLen) : Rz x (some ⟨g, 0, none⟩) l.length l.length l :=
  ⟨rfl, Nat.le_refl _, hn, (fun h => by cases h), fun _ => ⟨g, 0, rfl, (Array.getElem?_eq_some_iff.1 h).1, fun j z hz => by
    rw [Nat.zero_add, cell_of_row x g j _ _ _ h, List.getElem?_toArray, ic, List.getElem?_map, hz]
    rfl⟩⟩

theorem drop_atZ {α : Type} {l : List α} {j : Nat} {x : α} (h : l[j]? = some x) : l.drop j = x :: l.drop (j + 1) := by
  obtain ⟨hj, rfl⟩ := List.getElem?_eq_some_iff.1 h
  exact List.drop_eq_getElem_cons hj

/-- Whether two are the same. -/
def zeq (l m : List Int) : Bool := decide (l = m)
theorem zeq_cons (x y : Int) (l m : List Int) : zeq (x :: l) (y :: m) = ((x == y) && zeq l m) := by
  unfold zeq
  rw [Bool.eq_iff_iff]
  simp
theorem zeq_len {l m : List Int} (h : l.length ≠ m.length) : zeq l m = false := by
  unfold zeq
  rw [decide_eq_false_iff_not]
  intro e
  exact h (by rw [e])
theorem zeq_same (l : List Int) : zeq l l = true := decide_eq_true rfl
theorem zeq_of {l m : List Int} (h : l = m) : zeq l m = true := decide_eq_true h


end Go.Proofs.Ythoonceohipikaa
