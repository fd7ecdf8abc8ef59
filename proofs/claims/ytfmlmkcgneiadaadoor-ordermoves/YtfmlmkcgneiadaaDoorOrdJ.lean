/- One is put above or below another one, among numbers that are there once. No program. -/
import Derived.Test.YtfmlmkcgneiadaaDoorOrdA
namespace Go.Proofs.YtfmlmkcgneiadaaDoor
open Go Go.RowKit

/-- The numbers from 1 on. -/
def iot (k : Nat) : List Int := (List.range k).map fun (x : Nat) => (x : Int) + 1
theorem iot_length (k : Nat) : (iot k).length = k := by simp [iot]
theorem iot_succ (k : Nat) : iot (k + 1) = iot k ++ [(k : Int) + 1] := by simp [iot, List.range_succ]
theorem mem_iot {k : Nat} {z : Int} : z ∈ iot k ↔ 1 ≤ z ∧ z ≤ k := by
  simp only [iot, List.mem_map, List.mem_range]
  constructor
  · rintro ⟨x, hx, rfl⟩
    omega
  · intro h
    exact ⟨(z - 1).toNat, by omega, by omega⟩
theorem iot_nodup : ∀ k : Nat, (iot k).Nodup
  | 0 => List.nodup_nil
  | k + 1 => by
    rw [iot_succ, List.nodup_append]
    refine ⟨iot_nodup k, by simp, fun a ha b hb => ?_⟩
    simp only [List.mem_singleton] at hb
    have := (mem_iot.1 ha).2
    omega
theorem split_at {l : List Int} {t : Nat} {x : Int} (h : l[t]? = some x) : l = l.take t ++ x :: l.drop (t + 1) := by
  rw [← drop_atZ h, List.take_append_drop]
theorem once {l : List Int} (hn : l.Nodup) {t : Nat} {x : Int} (h : l[t]? = some x) : x ∉ l.drop (t + 1) := by
  rw [split_at h, List.nodup_append] at hn
  have := hn.2.1
  rw [List.nodup_cons] at this
  exact this.1
theorem at_once {l : List Int} (hn : l.Nodup) {t p : Nat} {x : Int} (h : l[t]? = some x) (hp : l[p]? = some x) : p = t := by
  rcases Nat.lt_trichotomy p t with h1 | h1 | h1
  · refine absurd ?_ (once hn hp)
    have : (l.drop (p + 1))[t - (p + 1)]? = some x := by rw [List.getElem?_drop, show p + 1 + (t - (p + 1)) = t by omega]; exact h
    exact List.mem_of_getElem? this
  · exact h1
  · refine absurd ?_ (once hn h)
    have : (l.drop (t + 1))[p - (t + 1)]? = some x := by rw [List.getElem?_drop, show t + 1 + (p - (t + 1)) = p by omega]; exact hp
    exact List.mem_of_getElem? this
theorem dr_len {l : List Int} (hn : l.Nodup) {i : Int} (hi : i ∈ l) : (dr i l).length + 1 = l.length := by
  cases hx : ix i l with
  | none => exact absurd hi (ix_none.1 hx)
  | some t =>
    obtain ⟨h1, h2, h3, _⟩ := ix_some hx
    rw [h3, dr_not (once hn h2), List.length_append, List.length_take, List.length_drop]
    omega
theorem ins_left {l : List Int} {i p : Nat} {z : Int} (hi : i ≤ l.length) (hp : p < i) : (ins l i z)[p]? = l[p]? := by
  rw [ins, List.getElem?_append_left (by rw [List.length_take]; omega), List.getElem?_take_of_lt hp]
theorem ins_mid {l : List Int} {i : Nat} {z : Int} (hi : i ≤ l.length) : (ins l i z)[i]? = some z := by
  rw [ins, List.getElem?_append_right (by rw [List.length_take]; omega), List.length_take, Nat.min_eq_left hi, Nat.sub_self]
  rfl
theorem ins_right {l : List Int} {i p : Nat} {z : Int} (hi : i ≤ l.length) (hp : i < p) : (ins l i z)[p]? = l[p - 1]? := by
  rw [ins, List.getElem?_append_right (by rw [List.length_take]; omega), List.length_take, Nat.min_eq_left hi, show p - i = (p - i - 1) + 1 by omega, List.getElem?_cons_succ, List.getElem?_drop, show i + (p - i - 1) = p - 1 by omega]
theorem dr_ins {l : List Int} {i : Nat} {z : Int} (hz : z ∉ l) : dr z (ins l i z) = l := by
  rw [ins, dr_append, dr_cons, if_pos rfl, dr_not (fun h => hz (List.mem_of_mem_take h)), dr_not (fun h => hz (List.mem_of_mem_drop h)), List.take_append_drop]
theorem mem_ins (l : List Int) (i : Nat) (z : Int) : z ∈ ins l i z := by simp [ins]

/-- All that OrderMoves asks, where they are two. -/
structure Mv (k : Nat) (i j : Int) (D X Y : List Int) : Prop where
  d : dr i (iot k) = D
  up : bes (iot k) i j 1 = some X
  down : bes (iot k) i j 0 = some Y
  again : bes Y i j 1 = some X
  dx : dr i X = D
  dy : dr i Y = D
  lx : X.length = k
  ly : Y.length = k
  ld : D.length + 1 = k
  xs : ∀ p, X[p]? = some j → p + 1 < k ∧ X[p + 1]? = some i
  ys : ∀ p, Y[p]? = some j → p ≠ 0 ∧ Y[p - 1]? = some i
  no : ∀ p : Nat, X[p]? = some j → Y[p]? = some j → False

theorem mv_any (k : Nat) (i j : Int) (hi : 1 ≤ i ∧ i ≤ k) (hj : 1 ≤ j ∧ j ≤ k) (hij : i ≠ j) : ∃ D X Y, Mv k i j D X Y := by
  have mi : i ∈ iot k := mem_iot.2 hi
  have hn := iot_nodup k
  obtain ⟨D, hD⟩ : ∃ D, dr i (iot k) = D := ⟨_, rfl⟩
  have hnD : D.Nodup := by rw [← hD]; exact hn.sublist List.filter_sublist
  have hlD : D.length + 1 = k := by rw [← hD, dr_len hn mi, iot_length]
  have hiD : i ∉ D := by rw [← hD]; exact fun h => (mem_dr.1 h).2 rfl
  have hjD : j ∈ D := by rw [← hD]; exact mem_dr.2 ⟨mem_iot.2 hj, fun e => hij e.symm⟩
  cases hq : ix j D with
  | none => exact absurd hjD (ix_none.1 hq)
  | some q =>
    obtain ⟨q1, q2, _, _⟩ := ix_some hq
    have bb : ∀ b, bes (iot k) i j b = some (ins D (q + b) i) := fun b => by
      cases hx : ix i (iot k) with
      | none => exact absurd mi (ix_none.1 hx)
      | some t => rw [bes, hx]; simp only [hD, hq, Option.map_some]
    refine ⟨D, ins D (q + 1) i, ins D q i, hD, bb 1, bb 0, ?_, dr_ins hiD, dr_ins hiD, by rw [ins_length]; exact hlD, by rw [ins_length]; exact hlD, hlD, fun p hp => ?_, fun p hp => ?_, fun p hp hp2 => ?_⟩
    · cases hx : ix i (ins D q i) with
      | none => exact absurd (mem_ins D q i) (ix_none.1 hx)
      | some t => rw [bes, hx]; simp only [dr_ins hiD, hq, Option.map_some]
    · rcases Nat.lt_trichotomy p (q + 1) with h1 | h1 | h1
      · rw [ins_left (by omega) h1] at hp
        obtain rfl := at_once hnD q2 hp
        exact ⟨by omega, ins_mid (by omega)⟩
      · subst h1
        rw [ins_mid (by omega)] at hp
        exact absurd (Option.some.inj hp) hij
      · rw [ins_right (by omega) h1] at hp
        have := at_once hnD q2 hp
        omega
    · rcases Nat.lt_trichotomy p q with h1 | h1 | h1
      · rw [ins_left (by omega) h1] at hp
        have := at_once hnD q2 hp
        omega
      · subst h1
        rw [ins_mid (by omega)] at hp
        exact absurd (Option.some.inj hp) hij
      · rw [ins_right (by omega) h1] at hp
        have := at_once hnD q2 hp
        obtain rfl : p = q + 1 := by omega
        exact ⟨by omega, by rw [Nat.add_sub_cancel]; exact ins_mid (by omega)⟩
    · have h1 : p = q := by
        rcases Nat.lt_trichotomy p (q + 1) with h1 | h1 | h1
        · rw [ins_left (by omega) h1] at hp
          exact at_once hnD q2 hp
        · subst h1
          rw [ins_mid (by omega)] at hp
          exact absurd (Option.some.inj hp) hij
        · rw [ins_right (by omega) h1] at hp
          have := at_once hnD q2 hp
          omega
      subst h1
      rw [ins_mid (by omega)] at hp2
      exact hij (Option.some.inj hp2)
/-- Where they are one. -/
theorem mv_one (k : Nat) (i : Int) (b : Nat) : bes (iot k) i i b = none := by
  rw [bes_doc, if_pos (.inl rfl)]
end Go.Proofs.YtfmlmkcgneiadaaDoor
