/- Slices of numbers in a row of one's own that may begin behind the row's first cell: read, appended to, cut at their head. Over any program that has []int. -/
import Derived.Test.YtnlaegleekghmaaDoorLibI
import Derived.Laws.Rows
import Derived.Lib.Builder
namespace Go.Proofs.YtnlaegleekghmaaDoor
open Go Go.RowKit

/-- The block that a slice lies in. -/
def obk (a : Option Addr) : List Nat := (a.map (·.block)).toList
theorem mem_obk {a : Option Addr} {b : Nat} : b ∈ obk a ↔ ∃ x, a = some x ∧ x.block = b := by
  cases a with
  | none => simp [obk]
  | some x => simp [obk, eq_comm]
/-- A slice that holds the numbers l, in a block of one's own (from base on), wherever it begins there. -/
structure Oz (base : Nat) (w : World) (a : Option Addr) (n c : Nat) (l : List Int) : Prop where
  len : l.length = n
  pl : (a = none ∧ n = 0 ∧ c = 0) ∨ ∃ g off cur, a = some ⟨g, off, none⟩ ∧ base ≤ g ∧ w.heap[g]? = some (.cells cur 3 (0, 0)) ∧ off + c ≤ cur.size ∧ n ≤ c ∧ c ≤ maxLen ∧ ∀ j z, l[j]? = some z → cur[off + j]? = some (.int .i64 z)
variable {base : Nat} {w w' : World} {a : Option Addr} {n c : Nat} {l : List Int}
theorem Oz.nil (base : Nat) (w : World) : Oz base w none 0 0 [] := ⟨rfl, .inl ⟨rfl, rfl, rfl⟩⟩
theorem Oz.kp (h : Oz base w a n c l) {X : List Nat} (hk : Kp X w w') (hX : ∀ b ∈ obk a, b ∉ X) : Oz base w' a n c l := by
  refine ⟨h.len, ?_⟩
  rcases h.pl with q | ⟨g, off, cur, rfl, hb, hg, q⟩
  · exact .inl q
  · exact .inr ⟨g, off, cur, rfl, hb, hk.var hg (hX g (by simp [obk])), q⟩
theorem Oz.lt (h : Oz base w a n c l) {b : Nat} (hb : b ∈ obk a) : base ≤ b ∧ b < w.heap.size := by
  rcases h.pl with ⟨rfl, _⟩ | ⟨g, off, cur, rfl, hb', hg, _⟩
  · simp [obk] at hb
  · obtain rfl : b = g := by simpa [obk] using hb
    exact ⟨hb', (Array.getElem?_eq_some_iff.1 hg).1⟩
theorem Oz.rz (h : Oz base w a n c l) : Rz w a n c l := by
  rcases h.pl with ⟨rfl, rfl, rfl⟩ | ⟨g, off, cur, rfl, hb', hg, h1, h2, h3, h4⟩
  · obtain rfl : l = [] := List.eq_nil_of_length_eq_zero h.len
    exact Rz.nil w
  · refine ⟨h.len, h2, h3, (fun e => by cases e), fun _ => ⟨g, off, rfl, (Array.getElem?_eq_some_iff.1 hg).1, fun j z hz => ?_⟩⟩
    rw [Lib.cell_of_heap hg]
    exact h4 j z hz
/-- 'l[k:]'. -/
def cutO (a : Option Addr) (c k : Nat) : Option Addr := if c = k then a else a.map fun x => x.add k
theorem obk_cutO (a : Option Addr) (c k : Nat) : obk (cutO a c k) = obk a := by
  unfold cutO
  split
  · rfl
  · cases a with
    | none => rfl
    | some x =>
      obtain ⟨b, o, s⟩ := x
      simp only [obk, Option.map_some, Option.toList_some, Addr.add]
      split <;> rfl
theorem Oz.cut (h : Oz base w a n c l) (k : Nat) (hk : k ≤ n) : Oz base w (cutO a c k) (n - k) (c - k) (l.drop k) := by
  have hl := h.len
  refine ⟨by rw [List.length_drop, hl], ?_⟩
  rcases h.pl with ⟨rfl, rfl, rfl⟩ | ⟨g, off, cur, rfl, hb', hg, h1, h2, h3, h4⟩
  · refine .inl ⟨?_, by omega, by omega⟩
    unfold cutO
    split <;> rfl
  · unfold cutO
    split
    · rename_i hc
      refine .inr ⟨g, off, cur, rfl, hb', hg, by omega, by omega, by omega, fun j z hz => ?_⟩
      rw [List.drop_eq_nil_of_le (by omega)] at hz
      simp at hz
    · refine .inr ⟨g, off + k, cur, ?_, hb', hg, by omega, by omega, by omega, fun j z hz => ?_⟩
      · rw [Option.map_some, Go.WideShapes.add_plain]
      · rw [List.getElem?_drop] at hz
        rw [Nat.add_assoc]
        exact h4 (k + j) z hz

section
variable {P : Program}
/-- One number appended: in the row where there is room, or in a new one. -/
theorem run_append_oz (t ty : TypeId) (i : TypeInfo) (ht : P.underlying t = some (.slice 3)) (hi : P.info? 3 = some i) (hz : i.zero = some (.int .i64 0)) (hsize : i.size = 1) (hby : i.bytes = 8)
    (h : Oz base w a n c l) (hn : n ≤ 1000000) (hbase : base ≤ w.heap.size) (x : Value) (z : Int) (hs : Src P 1 t x 1 [.int .i64 z] w) :
    ∃ a' c' w', (Builtin.append_ #[t, t] ty #[.slice a n c, x]).run P w = .ok (.slice a' (n + 1) c') w' ∧ Oz base w' a' (n + 1) c' (l ++ [z]) ∧ Kp (obk a) w w' ∧ ∀ b ∈ obk a', b ∈ obk a ∨ w.heap.size ≤ b := by
  have hl := h.len
  have grow : ∀ olds : List Value, olds = ic l → (Builtin.firstCells i.size n (.slice a n c)).run P w.drew = .ok olds.toArray w.drew → c < n + 1 →
      ∃ a' c' w', (Builtin.append_ #[t, t] ty #[.slice a n c, x]).run P w = .ok (.slice a' (n + 1) c') w' ∧ Oz base w' a' (n + 1) c' (l ++ [z]) ∧ Kp (obk a) w w' ∧ ∀ b ∈ obk a', b ∈ obk a ∨ w.heap.size ≤ b := fun olds ho hold hc => by
    have hr := run_append_grow_src (P := P) w t t ty 3 i (.int .i64 0) ht hi hz a n c olds hold x 1 [.int .i64 z] (by rw [hsize]; exact hs) hc (by omega) (by rw [hby]; exact fitsZ (by omega) _ (by omega))
    have hge : n + 1 ≤ grownCap w (n + 1) c 3 := grownCap_ge _ _ _ _
    have hmx : grownCap w (n + 1) c 3 ≤ maxLen := grownCap_le_maxLen _ _ _ _ (by simp only [maxLen]; omega)
    refine ⟨_, _, _, hr, ⟨by simp [hl], .inr ⟨w.heap.size, 0, _, rfl, hbase, by have := heap_alloc_new w.drew; simpa using this _, ?_, hge, hmx, fun j y hy => ?_⟩⟩, ?_, fun b hb => ?_⟩
    · have h1 : (Value.int .i64 0).cells.size = 1 := rfl
      simp only [ho, Array.size_append, List.size_toArray, List.length_append, ic_length, hl, size_zeroCells, h1, List.length_cons, List.length_nil]
      omega
    · have hj := (List.getElem?_eq_some_iff.1 hy).1
      rw [Nat.zero_add, Array.getElem?_append_left (by simpa [ho, ic_length] using hj)]
      have : (ic (l ++ [z]))[j]? = some (.int .i64 y) := by rw [ic, List.getElem?_map, hy]; rfl
      rw [ho]
      simpa [ic] using this
    · exact kp_of_below ((Below.refl _ _).drew.alloc (by simp) _) _
    · exact .inr (by
        obtain rfl : b = w.heap.size := by simpa [obk] using hb
        exact Nat.le_refl _)
  rcases h.pl with ⟨rfl, rfl, rfl⟩ | ⟨g, off, cur, rfl, hb', hg, h1, h2, h3, h4⟩
  · obtain rfl : l = [] := List.eq_nil_of_length_eq_zero hl
    exact grow [] rfl (run_firstCells_none w.drew i.size 0 0 0) (by omega)
  · have hrz := h.rz
    by_cases hroom : n + 1 ≤ c
    · have hr := run_append_room_src (P := P) w t t ty 3 i ht hi g off n c x 1 [.int .i64 z] (by rw [hsize]; exact hs) hroom
        (fun j hj => by
          simp only [List.length_cons, List.length_nil, Nat.zero_add, Nat.lt_one_iff] at hj
          rw [Lib.cell_of_heap hg, hj, hsize, Nat.mul_one, Nat.add_zero, Array.getElem?_eq_getElem (by omega)]
          rfl)
        (fun j _ => Lib.frozen_of_heap hg _)
      rw [hsize, Nat.mul_one] at hr
      refine ⟨_, _, _, hr, ⟨by simp [hl], .inr ⟨g, off, cur.setIfInBounds (off + n) (.int .i64 z), rfl, hb', heap_setCell_same _ g _ _ _ _ hg, by simpa using h1, hroom, h3, fun j y hy => ?_⟩⟩, (Kp.refl _ _).set ⟨g, off + n, none⟩ (by simp [obk]) _, fun b hb => .inl hb⟩
      rw [List.getElem?_append] at hy
      split at hy
      · rename_i hj
        rw [Array.getElem?_setIfInBounds_ne (by omega)]
        exact h4 j y hy
      · rename_i hj
        have hj' : j = n := by
          have := (List.getElem?_eq_some_iff.1 hy).1
          simp only [List.length_cons, List.length_nil] at this
          omega
        subst hj'
        rw [hl, Nat.sub_self] at hy
        simp only [List.getElem?_cons_zero, Option.some.injEq] at hy
        rw [← hy, Array.getElem?_setIfInBounds_self_of_lt (by omega)]
    · refine grow (ic l) rfl ?_ (by omega)
      refine run_firstCells_some (P := P) w.drew i.size n ⟨g, off, none⟩ n c (ic l) (by rw [ic_length, hl, hsize, Nat.mul_one]) (fun j u hu => ?_)
      obtain ⟨y, hy, rfl⟩ := ic_inv hu
      rw [Go.WideShapes.add_plain, World.cell?_drew, Lib.cell_of_heap hg]
      exact h4 j y hy
theorem wpList_append_oz {ops : Array Oper} {rest : List Oper} {o : Oper} {ac : Act} {Q : Exit → Act → World → Prop} (hgd : o.guard = none) (s x : Operand) (t : TypeId)
    (ho : o.op = .call { callee := .builtin .append, args := #[s, x], argTypes := #[t, t] }) (i : TypeInfo) (ht : P.underlying t = some (.slice 3)) (hi : P.info? 3 = some i) (hz : i.zero = some (.int .i64 0)) (hsize : i.size = 1) (hby : i.bytes = 8)
    (hs : ac.eval s = .slice a n c) (h : Oz base w a n c l) (hn : n ≤ 1000000) (hbase : base ≤ w.heap.size) (xv : Value) (z : Int) (hx : ac.eval x = xv) (hsrc : Src P 1 t xv 1 [.int .i64 z] w)
    (hK : ∀ a' c' w', Oz base w' a' (n + 1) c' (l ++ [z]) → Kp (obk a) w w' → (∀ b ∈ obk a', b ∈ obk a ∨ w.heap.size ≤ b) → wpList P ops Q rest (ac.put o.dst (.slice a' (n + 1) c')) w') : wpList P ops Q (o :: rest) ac w :=
  wpList_plain hgd fun K hK' => by
    obtain ⟨a', c', w', hr, h2, h3, h4⟩ := run_append_oz (P := P) t o.type i ht hi hz hsize hby h hn hbase xv z hsrc
    unfold Oper.wp execOp
    simp only [ho, resolve, invoke, builtin, Sem.run_bind, Sem.run_pure, Result.andThen_ok, List.map_toArray, List.map_cons, List.map_nil, hs, hx, hr]
    exact hK' _ _ (hK a' c' w' h2 h3 h4)
end
end Go.Proofs.YtnlaegleekghmaaDoor
