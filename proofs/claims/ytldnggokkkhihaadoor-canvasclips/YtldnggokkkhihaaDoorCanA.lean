/- A screen's points as a list, row by row; points turned where a predicate holds. -/
import Derived.Test.YtldnggokkkhihaaDoorLibK
namespace Go.Proofs.YtldnggokkkhihaaDoor
open Go

/-- The points of L (rows of W), turned by g where d holds. -/
def trn (W : Nat) (g : Int → Int → Int → Int) (d : Int → Int → Bool) (L : List Int) : List Int :=
  L.mapIdx fun i z => if d ((i % W : Nat) : Int) ((i / W : Nat) : Int) then g ((i % W : Nat) : Int) ((i / W : Nat) : Int) z else z

variable {W : Nat} {g : Int → Int → Int → Int} {d d' : Int → Int → Bool} {L : List Int}

theorem trn_length : (trn W g d L).length = L.length := by simp [trn]

theorem place_lt {W H x y : Nat} (hx : x < W) (hy : y < H) : y * W + x < W * H := by
  have : (y + 1) * W ≤ H * W := Nat.mul_le_mul_right W hy
  rw [Nat.add_mul, Nat.one_mul] at this
  rw [Nat.mul_comm W H]
  omega
theorem place_mod {W x y : Nat} (hx : x < W) : (y * W + x) % W = x := by
  rw [Nat.mul_comm, Nat.mul_add_mod, Nat.mod_eq_of_lt hx]
theorem place_div {W x y : Nat} (hx : x < W) : (y * W + x) / W = y := by
  rw [Nat.mul_comm, Nat.mul_add_div (by omega), Nat.div_eq_of_lt hx, Nat.add_zero]
theorem place_eq {W H i : Nat} (hi : i < W * H) : ∃ x y, x < W ∧ y < H ∧ i = y * W + x := by
  have hW : 0 < W := by
    rcases Nat.eq_zero_or_pos W with h | h
    · subst h; simp at hi
    · exact h
  refine ⟨i % W, i / W, Nat.mod_lt _ hW, Nat.div_lt_of_lt_mul hi, ?_⟩
  rw [Nat.mul_comm]
  exact (Nat.div_add_mod i W).symm

theorem trn_get {x y : Nat} (hx : x < W) : (trn W g d L)[y * W + x]? = L[y * W + x]?.map fun z => if d x y then g x y z else z := by
  rw [trn, List.getElem?_mapIdx, place_mod hx, place_div hx]

theorem trn_ext {H : Nat} {M : List Int} (hL : L.length = W * H) (hM : M.length = W * H) (h : ∀ x y : Nat, x < W → y < H → M[y * W + x]? = L[y * W + x]?.map fun z => if d x y then g x y z else z) : M = trn W g d L := by
  apply List.ext_getElem?
  intro i
  by_cases hi : i < W * H
  · obtain ⟨x, y, hx, hy, rfl⟩ := place_eq hi
    rw [h x y hx hy, trn_get hx]
  · rw [List.getElem?_eq_none (by omega), List.getElem?_eq_none (by rw [trn_length]; omega)]

theorem trn_congr {H : Nat} (hL : L.length = W * H) (h : ∀ x y : Nat, x < W → y < H → d x y = d' x y) : trn W g d L = trn W g d' L :=
  trn_ext hL (by rw [trn_length, hL]) fun x y hx hy => by rw [trn_get hx, h x y hx hy]

theorem trn_none {H : Nat} (hL : L.length = W * H) (h : ∀ x y : Nat, x < W → y < H → d x y = false) : trn W g d L = L :=
  (trn_ext hL hL fun x y hx hy => by
    rw [h x y hx hy]
    cases L[y * W + x]? <;> rfl).symm

/-- The point (x, y) and those of d. -/
def add1 (d : Int → Int → Bool) (x y : Int) (u v : Int) : Bool := d u v || (decide (u = x) && decide (v = y))

theorem trn_set {H x y : Nat} {z : Int} (hL : L.length = W * H) (hx : x < W) (hy : y < H) (hz : L[y * W + x]? = some z) : (trn W g d L).set (y * W + x) (g x y z) = trn W g (add1 d x y) L := by
  refine trn_ext hL (by rw [List.length_set, trn_length, hL]) fun u v hu hv => ?_
  rw [List.getElem?_set]
  by_cases e : y * W + x = v * W + u
  · have e1 := congrArg (· % W) e
    have e2 := congrArg (· / W) e
    simp only [place_mod hx, place_mod hu, place_div hx, place_div hu] at e1 e2
    subst e1 e2
    rw [if_pos rfl, trn_length, if_pos (by rw [hL]; exact place_lt hx hy), hz]
    simp [add1]
  · rw [if_neg e, trn_get hu]
    have hn : ¬ ((u : Int) = x ∧ (v : Int) = y) := by
      rintro ⟨h1, h2⟩
      apply e
      have h1 : u = x := by omega
      have h2 : v = y := by omega
      rw [h1, h2]
    have : add1 d x y u v = d u v := by
      rw [add1]
      have : (decide ((u : Int) = x) && decide ((v : Int) = y)) = false := by
        simpa using hn
      rw [this, Bool.or_false]
    rw [this]

theorem trn_all {P : Int → Prop} (hL : ∀ z ∈ L, P z) (hg : ∀ x y z, P z → P (g x y z)) : ∀ z ∈ trn W g d L, P z := by
  intro z hz
  obtain ⟨i, hi⟩ := List.getElem?_of_mem hz
  rw [trn, List.getElem?_mapIdx] at hi
  cases e : L[i]? with
  | none => rw [e] at hi; cases hi
  | some t =>
    rw [e] at hi
    have ht := hL t (List.mem_of_getElem? e)
    simp only [Option.map_some, Option.some.injEq] at hi
    subst hi
    split
    · exact hg _ _ _ ht
    · exact ht
end Go.Proofs.YtldnggokkkhihaaDoor
