/- The document's store: its rows of pools and buffers; where one stands; Size, Live, Info. -/
import Derived.Test.YtnfenfleahennaaDoorPolF
import Derived.Laws.OwnMore
import Derived.Test.YtnfenfleahennaaDoorLibS
namespace Go.Proofs.YtnfenfleahennaaDoor
open Go Go.RowKit

/-- The cells of pools, of buffers. -/
def pcs1 (e : Int × Pl) : List Value := [.int .i64 e.1, .int .i64 e.2.1, .int .i64 e.2.2]
def bcs1 (e : Int × Bf) : List Value := [.int .i64 e.1, .int .i64 e.2.1.k, .int .i64 e.2.1.o, .int .i64 e.2.1.w, .int .i64 e.2.1.h, .int .i64 e.2.1.s, .int .i64 e.2.1.f, .bool (!e.2.2)]

section
variable {α : Type} {f : α → List Value} {m : Nat}
theorem fm_length (hf : ∀ x, (f x).length = m) (l : List α) : (l.flatMap f).length = l.length * m := by
  induction l with
  | nil => simp
  | cons x l ih => rw [List.flatMap_cons, List.length_append, hf, ih, List.length_cons, Nat.succ_mul]; omega
theorem fm_at (hf : ∀ x, (f x).length = m) {l : List α} {j : Nat} {x : α} (h : l[j]? = some x) (i : Nat) (hi : i < m) : (l.flatMap f)[j * m + i]? = (f x)[i]? := by
  induction l generalizing j with
  | nil => simp at h
  | cons y l ih =>
    rw [List.flatMap_cons]
    cases j with
    | zero =>
      simp only [List.getElem?_cons_zero, Option.some.injEq] at h
      subst h
      rw [Nat.zero_mul, Nat.zero_add, List.getElem?_append_left (by rw [hf]; exact hi)]
    | succ j =>
      rw [List.getElem?_append_right (by rw [hf, Nat.succ_mul]; omega), hf]
      rw [show (j + 1) * m + i - m = j * m + i by rw [Nat.succ_mul]; omega]
      exact ih (by simpa using h)
theorem fm_take (hf : ∀ x, (f x).length = m) (l : List α) (k : Nat) : (l.flatMap f).take (k * m) = (l.take k).flatMap f := by
  induction l generalizing k with
  | nil => simp
  | cons y l ih =>
    cases k with
    | zero => simp
    | succ k =>
      rw [List.take_succ_cons, List.flatMap_cons, List.flatMap_cons, Nat.succ_mul, Nat.add_comm, List.take_append, hf, List.take_of_length_le (by rw [hf]; omega), Nat.add_sub_cancel_left, ih]
theorem fm_drop (hf : ∀ x, (f x).length = m) (l : List α) (k : Nat) : (l.flatMap f).drop (k * m) = (l.drop k).flatMap f := by
  induction l generalizing k with
  | nil => simp
  | cons y l ih =>
    cases k with
    | zero => simp
    | succ k =>
      rw [List.drop_succ_cons, List.flatMap_cons, Nat.succ_mul, Nat.add_comm, List.drop_append, hf, List.drop_eq_nil_of_le (by rw [hf]; omega), Nat.add_sub_cancel_left, ih, List.nil_append]
theorem fm_set (hf : ∀ x, (f x).length = m) {l : List α} {j : Nat} {x y : α} (h : l[j]? = some x) (i : Nat) (hi : i < m) (u : Value) (hy : (f x).set i u = f y) : (l.flatMap f).set (j * m + i) u = (l.set j y).flatMap f := by
  induction l generalizing j with
  | nil => simp at h
  | cons z l ih =>
    cases j with
    | zero =>
      simp only [List.getElem?_cons_zero, Option.some.injEq] at h
      subst h
      rw [List.set_cons_zero, List.flatMap_cons, List.flatMap_cons, Nat.zero_mul, Nat.zero_add, List.set_append_left _ _ (by rw [hf]; exact hi), hy]
    | succ j =>
      rw [List.set_cons_succ, List.flatMap_cons, List.flatMap_cons, List.set_append_right _ _ (by rw [hf, Nat.succ_mul]; omega), hf]
      rw [show (j + 1) * m + i - m = j * m + i by rw [Nat.succ_mul]; omega, ih (by simpa using h)]
end
theorem pcs_len (x : Int × Pl) : (pcs1 x).length = 3 := rfl
theorem bcs_len (x : Int × Bf) : (bcs1 x).length = 8 := rfl
def pcs (l : PL) : List Value := l.flatMap pcs1
def bcs (l : BL) : List Value := l.flatMap bcs1
theorem pcs_one (l : PL) : ∀ u ∈ pcs l, u.oneCell' = true := by
  intro u hu
  obtain ⟨x, _, hx⟩ := List.mem_flatMap.1 hu
  simp only [pcs1, List.mem_cons, List.not_mem_nil, or_false] at hx
  rcases hx with rfl | rfl | rfl <;> rfl
theorem bcs_one (l : BL) : ∀ u ∈ bcs l, u.oneCell' = true := by
  intro u hu
  obtain ⟨x, _, hx⟩ := List.mem_flatMap.1 hu
  simp only [bcs1, List.mem_cons, List.not_mem_nil, or_false] at hx
  rcases hx with rfl | rfl | rfl | rfl | rfl | rfl | rfl | rfl <;> rfl

theorem row_of {w : World} {base e m n : Nat} {v : Value} {xs : List Value} (h : w.ownsRow base e m v n xs) : ∃ a c, v = .slice a n c ∧ n ≤ c ∧ c ≤ maxLen ∧ (a = none → n = 0 ∧ c = 0) ∧ ∀ x, a = some x → ∃ g, x = ⟨g, 0, none⟩ ∧ base ≤ g ∧ g < w.heap.size ∧ ∀ j, j < n * m → w.cell? ⟨g, j, none⟩ = xs[j]? := by
  rcases h.2 with ⟨rfl, rfl⟩ | ⟨g, cap, cur, rfl, hb, hg, hn, hm, _, _⟩
  · exact ⟨none, 0, rfl, Nat.le_refl _, Nat.zero_le _, (fun _ => ⟨rfl, rfl⟩), fun x hx => by cases hx⟩
  · refine ⟨some ⟨g, 0, none⟩, cap, rfl, hn, hm, (fun h => by cases h), fun x hx => ?_⟩
    cases hx
    exact ⟨g, rfl, hb, (Array.getElem?_eq_some_iff.1 hg).1, fun j hj => h.cellAt j hj⟩

/-- The document's store at q. -/
structure Dst (base : Nat) (w : World) (q : Nat) (P : PL) (B : BL) : Prop where
  lo : base ≤ q
  ok : Okp P B
  var : ∃ pv bv, w.heap[q]? = some (.cells #[pv, bv] 29 (0, 0)) ∧ w.ownsRow base 75 3 pv P.length (pcs P) ∧ w.ownsRow base 79 8 bv B.length (bcs B) ∧ pv.ownBlock ≠ some q ∧ bv.ownBlock ≠ some q ∧ (∀ k, pv.ownBlock = some k → bv.ownBlock ≠ some k)

variable {base : Nat} {w w' : World} {q : Nat} {P : PL} {B : BL}
theorem Dst.on (h : Dst base w q P B) (hb : Below w.heap.size w w') : Dst base w' q P B := by
  obtain ⟨pv, bv, h1, h2, h3, h4⟩ := h.var
  exact ⟨h.lo, h.ok, pv, bv, (kp_of_below hb []).var h1 (by simp), ownsRow_below h2 hb, ownsRow_below h3 hb, h4⟩
theorem Dst.lt (h : Dst base w q P B) : q < w.heap.size := by
  obtain ⟨pv, bv, h1, _⟩ := h.var
  exact (Array.getElem?_eq_some_iff.1 h1).1
theorem Dst.kept {X : List Nat} (h : Dst base w q P B) (hk : Kp X w w') (hX : ∀ k ∈ X, k < base) : Dst base w' q P B := by
  obtain ⟨pv, bv, h1, h2, h3, h4⟩ := h.var
  have hn : ∀ k, base ≤ k → k ∉ X := fun k hb hm => by have := hX k hm; omega
  exact ⟨h.lo, h.ok, pv, bv, hk.var h1 (hn q h.lo), hk.row h2 (fun k hk => hn k (h2.lt k hk).1), hk.row h3 (fun k hk => hn k (h3.lt k hk).1), h4⟩

/-- A block of the rows. -/
def Own (w : World) (q k : Nat) : Prop := ∃ pv bv T f, w.heap[q]? = some (.cells #[pv, bv] T f) ∧ (pv.ownBlock = some k ∨ bv.ownBlock = some k)
/-- Nothing below base, and no block but q and those of the rows, has turned; no block that was there has become one of the rows'. -/
structure Dfb (base q : Nat) (w w' : World) : Prop where
  bel : Below base w w'
  keep : ∀ k, k < w.heap.size → k ≠ q → ¬ Own w q k → w'.heap[k]? = w.heap[k]? ∧ ¬ Own w' q k
theorem Dfb.refl (base q : Nat) (w : World) : Dfb base q w w := ⟨Below.refl _ _, fun _ _ _ h => ⟨rfl, h⟩⟩
theorem Dfb.trans {u : World} (h : Dfb base q w u) (h2 : Dfb base q u w') : Dfb base q w w' :=
  ⟨h.bel.trans h2.bel, fun k hk hq ho => by
    obtain ⟨e1, o1⟩ := h.keep k hk hq ho
    obtain ⟨e2, o2⟩ := h2.keep k (Nat.lt_of_lt_of_le hk h.bel.size) hq o1
    exact ⟨e2.trans e1, o2⟩⟩
theorem dfb_below (hT : Dst base w q P B) (hb : Below w.heap.size w w') : Dfb base q w w' :=
  ⟨hb.mono (Nat.le_of_lt (Nat.lt_of_le_of_lt hT.lo hT.lt)), fun k hk _ ho => ⟨hb.block k hk, fun ⟨pv, bv, T, f, h, h2⟩ => ho ⟨pv, bv, T, f, by rw [← hb.block q hT.lt]; exact h, h2⟩⟩⟩

/-- Where one stands; -1: there is none. -/
def ixI {α : Type} (l : List (Int × α)) (k : Int) : Int := if (gt l k).isSome then (ix l k : Nat) else -1
theorem ixI_none {α : Type} {l : List (Int × α)} {k : Int} (h : gt l k = none) : ixI l k = -1 := by rw [ixI, h]; rfl
theorem ixI_some {α : Type} {l : List (Int × α)} {k : Int} {x : α} (h : gt l k = some x) : ixI l k = (ix l k : Nat) := by rw [ixI, h]; rfl

set_option maxRecDepth 100000 in
theorem rpool_any (hT : Dst base w q P B) (hn : P.length < 1000) (id : Int) :
    Calls Tryd.prog 38 #[.pointer (some ⟨q, 0, none⟩), .int .i64 id] w fun e w' => e = .returned (.int .i64 (ixI P id)) ∧ w' = w := by
  obtain ⟨pv, bv, hv, hp, hb, _⟩ := hT.var
  obtain ⟨a, c, rfl, hle, hmax, hnil, hcell⟩ := row_of hp
  have c0 : w.cell? ⟨q, 0, none⟩ = some (.slice a P.length c) := by rw [Lib.cell_of_heap hv]; rfl
  have HC := hid hcell
  have HN := hid hnil
  obtain ⟨N, hN⟩ : ∃ N, N = P.length := ⟨_, rfl⟩
  have HNN := hid hN
  rw [← hN] at c0 hle hn HC HN
  simp only [maxLen] at hmax
  clear hT hv hp hb hcell hnil hN
  go_enter Tryd.func38, Tryd.ntmps38
  go_wp2
  go_loop [5] (fun i => ∃ j : Nat, i = .int .i64 j ∧ j ≤ ix P id) (fun i => N + 1 - (numOf i).toNat)
  case atStart => exact ⟨0, rfl, Nat.zero_le _⟩
  case round =>
    obtain ⟨j, rfl, hj⟩ := hrel
    have hle2 := ix_le P id
    rw [← HNN.out] at hle2
    by_cases hgo : j < N
    · have e1 : decide ((j : Int) < N) = true := decide_eq_true (by omega)
      obtain ⟨x, rfl⟩ : ∃ x, a = some x := by
        cases a with
        | none => have := (HN.out rfl).1; omega
        | some x => exact ⟨x, rfl⟩
      obtain ⟨g, rfl, _, hg, hc⟩ := HC.out x rfl
      obtain ⟨y, hy⟩ : ∃ y, P[j]? = some y := ⟨_, List.getElem?_eq_getElem (by rw [← HNN.out]; exact hgo)⟩
      have c1 : w.cell? ⟨g, j * 3, none⟩ = some (.int .i64 y.1) := by
        have := hc (j * 3 + 0) (by omega)
        rw [show pcs P = P.flatMap pcs1 from rfl, fm_at pcs_len hy 0 (by decide)] at this
        exact this
      have HY := hid hy
      clear hc hy
      by_cases hy1 : y.1 = id
      · have e2 : (y.1 == id) = true := by simpa using hy1
        have HR : Hid (ixI P id = j) := by
          rw [Hid]
          have hge : ¬ j < ix P id := fun h => ix_ahead P id j h y HY.out hy1
          have hs : (gt P id).isSome = true := gt_some.2 (by rw [← hy1]; exact List.mem_map_of_mem (List.mem_of_getElem? HY.out))
          rw [ixI, if_pos hs]
          omega
        go_wp2
        go_ret
        rw [HR.out]
        exact ⟨rfl, rfl⟩
      · have e2 : (y.1 == id) = false := by simpa using hy1
        have hlt : j < ix P id := by
          rcases Nat.lt_or_ge j (ix P id) with h | h
          · exact h
          · exfalso
            obtain rfl : j = ix P id := by omega
            cases hg' : gt P id with
            | none => rw [ix_none hg', ← HNN.out] at hgo; omega
            | some z =>
              have := ix_some hg'
              rw [HY.out] at this
              cases this
              exact hy1 rfl
        go_wp2
        go_round
        case rel => exact ⟨j + 1, by go_num, by omega⟩
        case measure => simp [numOf]; omega
    · have hjN : j = N := by omega
      have e1 : decide ((j : Int) < N) = false := decide_eq_false (by omega)
      have HR : Hid (ixI P id = -1) := by
        rw [Hid]
        cases hg' : gt P id with
        | none => exact ixI_none hg'
        | some z => have := ix_lt hg'; rw [← HNN.out] at this; omega
      go_wp2
      go_ret
      rw [HR.out]
      exact ⟨rfl, rfl⟩

set_option maxRecDepth 100000 in
theorem rbuffer_any (hT : Dst base w q P B) (hn : B.length < 1000) (id : Int) :
    Calls Tryd.prog 39 #[.pointer (some ⟨q, 0, none⟩), .int .i64 id] w fun e w' => e = .returned (.int .i64 (ixI B id)) ∧ w' = w := by
  obtain ⟨pv, bv, hv, hp, hb, _⟩ := hT.var
  obtain ⟨a, c, rfl, hle, hmax, hnil, hcell⟩ := row_of hb
  have c0 : w.cell? ⟨q, 1, none⟩ = some (.slice a B.length c) := by rw [Lib.cell_of_heap hv]; rfl
  have HC := hid hcell
  have HN := hid hnil
  obtain ⟨N, hN⟩ : ∃ N, N = B.length := ⟨_, rfl⟩
  have HNN := hid hN
  rw [← hN] at c0 hle hn HC HN
  simp only [maxLen] at hmax
  clear hT hv hp hb hcell hnil hN
  go_enter Tryd.func39, Tryd.ntmps39
  go_wp2
  go_loop [5] (fun i => ∃ j : Nat, i = .int .i64 j ∧ j ≤ ix B id) (fun i => N + 1 - (numOf i).toNat)
  case atStart => exact ⟨0, rfl, Nat.zero_le _⟩
  case round =>
    obtain ⟨j, rfl, hj⟩ := hrel
    have hle2 := ix_le B id
    rw [← HNN.out] at hle2
    by_cases hgo : j < N
    · have e1 : decide ((j : Int) < N) = true := decide_eq_true (by omega)
      obtain ⟨x, rfl⟩ : ∃ x, a = some x := by
        cases a with
        | none => have := (HN.out rfl).1; omega
        | some x => exact ⟨x, rfl⟩
      obtain ⟨g, rfl, _, hg, hc⟩ := HC.out x rfl
      obtain ⟨y, hy⟩ : ∃ y, B[j]? = some y := ⟨_, List.getElem?_eq_getElem (by rw [← HNN.out]; exact hgo)⟩
      have c1 : w.cell? ⟨g, j * 8, none⟩ = some (.int .i64 y.1) := by
        have := hc (j * 8 + 0) (by omega)
        rw [show bcs B = B.flatMap bcs1 from rfl, fm_at bcs_len hy 0 (by decide)] at this
        exact this
      have HY := hid hy
      clear hc hy
      by_cases hy1 : y.1 = id
      · have e2 : (y.1 == id) = true := by simpa using hy1
        have HR : Hid (ixI B id = j) := by
          rw [Hid]
          have hge : ¬ j < ix B id := fun h => ix_ahead B id j h y HY.out hy1
          have hs : (gt B id).isSome = true := gt_some.2 (by rw [← hy1]; exact List.mem_map_of_mem (List.mem_of_getElem? HY.out))
          rw [ixI, if_pos hs]
          omega
        go_wp2
        go_ret
        rw [HR.out]
        exact ⟨rfl, rfl⟩
      · have e2 : (y.1 == id) = false := by simpa using hy1
        have hlt : j < ix B id := by
          rcases Nat.lt_or_ge j (ix B id) with h | h
          · exact h
          · exfalso
            obtain rfl : j = ix B id := by omega
            cases hg' : gt B id with
            | none => rw [ix_none hg', ← HNN.out] at hgo; omega
            | some z =>
              have := ix_some hg'
              rw [HY.out] at this
              cases this
              exact hy1 rfl
        go_wp2
        go_round
        case rel => exact ⟨j + 1, by go_num, by omega⟩
        case measure => simp [numOf]; omega
    · have hjN : j = N := by omega
      have e1 : decide ((j : Int) < N) = false := decide_eq_false (by omega)
      have HR : Hid (ixI B id = -1) := by
        rw [Hid]
        cases hg' : gt B id with
        | none => exact ixI_none hg'
        | some z => have := ix_lt hg'; rw [← HNN.out] at this; omega
      go_wp2
      go_ret
      rw [HR.out]
      exact ⟨rfl, rfl⟩

end Go.Proofs.YtnfenfleahennaaDoor
