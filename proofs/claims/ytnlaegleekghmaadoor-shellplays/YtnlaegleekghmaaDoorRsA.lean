/- The document's windows in memory: a row of windows, each with its serials. -/
import Derived.Test.YtnlaegleekghmaaDoorShA
import Derived.Test.YtnlaegleekghmaaDoorLibO
import Derived.Test.YtnlaegleekghmaaDoorLibE
import Derived.Laws.OwnMore
namespace Go.Proofs.YtnlaegleekghmaaDoor
open Go Go.RowKit

section
variable {α : Type} {f : α → List Value} {m : Nat}
theorem fw_length (hf : ∀ x, (f x).length = m) (l : List α) : (l.flatMap f).length = l.length * m := by
  induction l with
  | nil => simp
  | cons x l ih => rw [List.flatMap_cons, List.length_append, hf, ih, List.length_cons, Nat.succ_mul]; omega
theorem fw_at (hf : ∀ x, (f x).length = m) {l : List α} {j : Nat} {x : α} (h : l[j]? = some x) (i : Nat) (hi : i < m) : (l.flatMap f)[j * m + i]? = (f x)[i]? := by
  induction l generalizing j with
  | nil => simp at h
  | cons y l ih =>
    rw [List.flatMap_cons]
    cases j with
    | zero =>
      simp only [List.getElem?_cons_zero, Option.some.injEq] at h
      subst h
      rw [Nat.zero_mul, Nat.zero_add, List.getElem?_append_left (by rw [hf]; exact hi)]
    | succ j =>
      rw [List.getElem?_append_right (by rw [hf, Nat.succ_mul]; omega), hf]
      rw [show (j + 1) * m + i - m = j * m + i by rw [Nat.succ_mul]; omega]
      exact ih (by simpa using h)
theorem fw_set (hf : ∀ x, (f x).length = m) {l : List α} {j : Nat} {x y : α} (h : l[j]? = some x) (i : Nat) (hi : i < m) (u : Value) (hy : (f x).set i u = f y) : (l.flatMap f).set (j * m + i) u = (l.set j y).flatMap f := by
  induction l generalizing j with
  | nil => simp at h
  | cons z l ih =>
    cases j with
    | zero =>
      simp only [List.getElem?_cons_zero, Option.some.injEq] at h
      subst h
      rw [List.set_cons_zero, List.flatMap_cons, List.flatMap_cons, Nat.zero_mul, Nat.zero_add, List.set_append_left _ _ (by rw [hf]; exact hi), hy]
    | succ j =>
      rw [List.set_cons_succ, List.flatMap_cons, List.flatMap_cons, List.set_append_right _ _ (by rw [hf, Nat.succ_mul]; omega), hf]
      rw [show (j + 1) * m + i - m = j * m + i by rw [Nat.succ_mul]; omega, ih (by simpa using h)]
end

/-- A window of the document: its serials' slice, what it is. -/
structure Dw where
  a : Option Addr
  n : Nat
  c : Nat
  s : Wn
abbrev Dwl := List (Int × Dw)
def dcs1 (e : Int × Dw) : List Value := [.int .i64 e.1, .int .i64 e.2.s.step, .slice e.2.a e.2.n e.2.c]
def dcs (R : Dwl) : List Value := R.flatMap dcs1
theorem dcs_len (x : Int × Dw) : (dcs1 x).length = 3 := rfl
theorem dcs_length (R : Dwl) : (dcs R).length = R.length * 3 := fw_length dcs_len R
theorem dcs_one (l : Dwl) : ∀ u ∈ dcs l, u.oneCell' = true := by
  intro u hu
  obtain ⟨x, _, hx⟩ := List.mem_flatMap.1 hu
  simp only [dcs1, List.mem_cons, List.not_mem_nil, or_false] at hx
  rcases hx with rfl | rfl | rfl <;> rfl
def dab (R : Dwl) : Wo := R.map fun e => (e.1, e.2.s)
theorem dab_keys (L : Dwl) : keys (dab L) = keys L := by simp [dab, keys]
theorem dab_length (L : Dwl) : (dab L).length = L.length := by simp [dab]
theorem gt_dab (L : Dwl) (x : Int) : gt (dab L) x = (gt L x).map fun e => e.s := by
  induction L with
  | nil => rfl
  | cons e L ih =>
    rw [dab, List.map_cons, gt, gt]
    split
    · rfl
    · exact ih
theorem dab_st (L : Dwl) (id : Int) (e : Dw) : dab (st L id e) = st (dab L) id e.s := by
  rw [dab, st, st, dab, List.map_map, List.map_map]
  refine List.map_congr_left fun e _ => ?_
  simp only [Function.comp]
  split <;> rfl
theorem dab_rm (L : Dwl) (id : Int) : dab (rm L id) = rm (dab L) id := by
  rw [dab, dab, rm, rm, List.filter_map]
  rfl

/-- The document's windows: its struct in the block q, v its row, R its windows. -/
structure Ds (base : Nat) (w : World) (q : Nat) (v : Value) (R : Dwl) : Prop where
  lo : base ≤ q
  obj : w.heap[q]? = some (.cells #[v] 28 (0, 0))
  own : w.ownsRow base 49 3 v R.length (dcs R)
  nq : v.ownBlock ≠ some q
  nd : (keys R).Nodup
  rd : ∀ x e, gt R x = some e → Rz w e.a e.n e.c e.s.ser
  far : ∀ x e, gt R x = some e → ∀ b ∈ obk e.a, base ≤ b ∧ b < w.heap.size ∧ b ≠ q ∧ v.ownBlock ≠ some b
/-- All its blocks. -/
def dbl (q : Nat) (v : Value) (R : Dwl) : List Nat := q :: (v.ownBlock.toList ++ R.flatMap fun e => obk e.2.a)
variable {base : Nat} {w w' : World} {q : Nat} {v v' : Value} {R R' : Dwl} {F : Wo} {id : Int} {e : Dw}
theorem gt_of_memd {α : Type} {l : List (Int × α)} (hn : (keys l).Nodup) {x : Int × α} (hx : x ∈ l) : gt l x.1 = some x.2 := by
  induction l with
  | nil => cases hx
  | cons e l ih =>
    rw [keys, List.map_cons, List.nodup_cons] at hn
    rw [gt]
    rcases List.mem_cons.1 hx with rfl | hx
    · rw [if_pos rfl]
    · rw [if_neg (fun he => hn.1 (by rw [he]; exact List.mem_map_of_mem (f := fun e : Int × α => e.1) hx))]
      exact ih hn.2 hx
theorem mem_dbl (hn : (keys R).Nodup) {b : Nat} : b ∈ dbl q v R ↔ b = q ∨ v.ownBlock = some b ∨ ∃ x e, gt R x = some e ∧ b ∈ obk e.a := by
  rw [dbl, List.mem_cons, List.mem_append, List.mem_flatMap, Option.mem_toList]
  refine or_congr_right (or_congr_right ⟨?_, ?_⟩)
  · rintro ⟨e, he, hb⟩
    exact ⟨e.1, e.2, gt_of_memd hn he, hb⟩
  · rintro ⟨x, e, he, hb⟩
    exact ⟨(x, e), gt_mem he, hb⟩
theorem Ds.blt (h : Ds base w q v R) {b : Nat} (hb : b ∈ dbl q v R) : base ≤ b ∧ b < w.heap.size := by
  rcases (mem_dbl h.nd).1 hb with rfl | hb | ⟨x, e, he, hb⟩
  · exact ⟨h.lo, (Array.getElem?_eq_some_iff.1 h.obj).1⟩
  · exact h.own.lt b hb
  · exact ⟨(h.far x e he b hb).1, (h.far x e he b hb).2.1⟩
theorem Rz.kpo {a : Option Addr} {n c : Nat} {l : List Int} (h : Rz w a n c l) {X : List Nat} (hk : Kp X w w') (hX : ∀ b ∈ obk a, b ∉ X) : Rz w' a n c l :=
  ⟨h.len, h.le, h.max, h.hnil, fun hn => by
    obtain ⟨b, off, rfl, h1, h2⟩ := h.pl hn
    exact ⟨b, off, rfl, Nat.lt_of_lt_of_le h1 hk.size, fun j z hz => hk.cell (h2 j z hz) (hX b (by simp [obk]))⟩⟩
theorem Ds.kept (h : Ds base w q v R) {X : List Nat} (hk : Kp X w w') (hX : ∀ b ∈ dbl q v R, b ∉ X) : Ds base w' q v R := by
  have hr : ∀ x e, gt R x = some e → ∀ b ∈ obk e.a, b ∉ X := fun x e he b hb => hX b ((mem_dbl h.nd).2 (.inr (.inr ⟨x, e, he, hb⟩)))
  exact ⟨h.lo, hk.var h.obj (hX q (by simp [dbl])), hk.row h.own (fun k hk' => hX k ((mem_dbl h.nd).2 (.inr (.inl hk')))), h.nq, h.nd, fun x e he => (h.rd x e he).kpo hk (hr x e he), fun x e he b hb => ⟨(h.far x e he b hb).1, Nat.lt_of_lt_of_le (h.far x e he b hb).2.1 hk.size, (h.far x e he b hb).2.2⟩⟩
theorem Ds.on (h : Ds base w q v R) (hb : Below w.heap.size w w') : Ds base w' q v R := h.kept (kp_of_below hb []) (by simp)
theorem Ds.c0 (h : Ds base w q v R) : w.cell? ⟨q, 0, none⟩ = some v := by rw [Lib.cell_of_heap h.obj]; rfl
theorem Ds.lt (h : Ds base w q v R) : q < w.heap.size := (Array.getElem?_eq_some_iff.1 h.obj).1
theorem Ds.fz (h : Ds base w q v R) (j : Nat) : w.frozen? ⟨q, j, none⟩ = false := Lib.frozen_of_heap h.obj j
/-- Where it has a window: the row's block. -/
theorem Ds.form (h : Ds base w q v R) (hn : 0 < R.length) : ∃ g c, v = .slice (some ⟨g, 0, none⟩) R.length c ∧ base ≤ g ∧ g < w.heap.size ∧ g ≠ q ∧ R.length ≤ c ∧ c ≤ maxLen ∧ (∀ j, w.frozen? ⟨g, j, none⟩ = false) ∧ ∀ j, j < R.length * 3 → w.cell? ⟨g, j, none⟩ = (dcs R)[j]? := by
  have hnq := h.nq
  rcases h.own.2 with ⟨_, h0⟩ | ⟨g, cap, cur, rfl, hb, hg, hc, hm, _, _⟩
  · omega
  · exact ⟨g, cap, rfl, hb, (Array.getElem?_eq_some_iff.1 hg).1, fun e => hnq (by rw [← e]; rfl), hc, hm, fun j => h.own.frozenAt j, fun j hj => h.own.cellAt j hj⟩
theorem Ds.shape (h : Ds base w q v R) : ∃ a c, v = .slice a R.length c ∧ R.length ≤ 9223372036854775807 := by
  rcases h.own.2 with ⟨rfl, h0⟩ | ⟨g, cap, cur, rfl, hb, hg, hc, hm, _, _⟩
  · exact ⟨none, 0, by rw [h0], by omega⟩
  · refine ⟨_, cap, rfl, ?_⟩
    simp only [maxLen] at hm
    omega
theorem dcs_at {R : Dwl} {j : Nat} {x : Int × Dw} (h : R[j]? = some x) (i : Nat) (hi : i < 3) : (dcs R)[j * 3 + i]? = (dcs1 x)[i]? := fw_at dcs_len h i hi

/-- What a call leaves. -/
def DsR (base : Nat) (w : World) (q : Nat) (v : Value) (R : Dwl) (F : Wo) (w' : World) : Prop := ∃ v' R', Ds base w' q v' R' ∧ dab R' = F ∧ Kp (dbl q v R) w w' ∧ ∀ b ∈ dbl q v' R', b ∈ dbl q v R ∨ w.heap.size ≤ b
theorem DsR.refl (h : Ds base w q v R) (hb : Below w.heap.size w w') : DsR base w q v R (dab R) w' := ⟨v, R, h.on hb, rfl, kp_of_below hb _, fun _ hb => .inl hb⟩
theorem DsR.as {F' : Wo} (h : DsR base w q v R F w') (e : F = F') : DsR base w q v R F' w' := e ▸ h
/-- A window of the row turned: its row's cells were written, its serials are those that they were, or new. -/
theorem Ds.turn (h : Ds base w q v R) (he : gt R id = some e) {X : List Nat} (hk : Kp X w w') (hX : ∀ b ∈ X, v.ownBlock = some b) (e' : Dw)
    (hown : w'.ownsRow base 49 3 v R.length (dcs (st R id e'))) (hrd : Rz w' e'.a e'.n e'.c e'.s.ser)
    (hn : ∀ b ∈ obk e'.a, b ∈ obk e.a ∨ w.heap.size ≤ b ∧ b < w'.heap.size) : DsR base w q v R (st (dab R) id e'.s) w' := by
  have hgt : ∀ x e1, gt (st R id e') x = some e1 → (x = id ∧ e1 = e') ∨ (x ≠ id ∧ gt R x = some e1) := fun x e1 hx => by
    rw [gt_st] at hx
    split at hx
    · rename_i hxi
      rw [he] at hx
      exact .inl ⟨hxi, by cases hx; rfl⟩
    · rename_i hxi
      exact .inr ⟨hxi, hx⟩
  have hnd : (keys (st R id e')).Nodup := by rw [keys_st]; exact h.nd
  have hqX : q ∉ X := fun hm => h.nq (hX q hm)
  have hrX : ∀ x e1, gt R x = some e1 → ∀ b ∈ obk e1.a, b ∉ X := fun x e1 he1 b hb hm => (h.far x e1 he1 b hb).2.2.2 (hX b hm)
  have hlen : (st R id e').length = R.length := by simp [st]
  have hb0 := h.lo
  have hlt := h.lt
  refine ⟨v, st R id e', ⟨h.lo, hk.var h.obj hqX, by rw [hlen]; exact hown, h.nq, hnd, fun x e1 hx => ?_, fun x e1 hx b hb => ?_⟩, dab_st _ _ _, hk.mono (fun b hb _ => (mem_dbl h.nd).2 (.inr (.inl (hX b hb)))), fun b hb => ?_⟩
  · rcases hgt x e1 hx with ⟨rfl, rfl⟩ | ⟨hne, hx⟩
    · exact hrd
    · exact (h.rd x e1 hx).kpo hk (hrX x e1 hx)
  · rcases hgt x e1 hx with ⟨rfl, rfl⟩ | ⟨hne, hx⟩
    · rcases hn b hb with h1 | ⟨h1, h2⟩
      · have := h.far x e he b h1
        exact ⟨this.1, Nat.lt_of_lt_of_le this.2.1 hk.size, this.2.2⟩
      · refine ⟨by omega, h2, by omega, fun hv => ?_⟩
        have := (h.own.lt b hv).2
        omega
    · have := h.far x e1 hx b hb
      exact ⟨this.1, Nat.lt_of_lt_of_le this.2.1 hk.size, this.2.2⟩
  · rcases (mem_dbl hnd).1 hb with rfl | h1 | ⟨x, e1, h1, h2⟩
    · exact .inl (by simp [dbl])
    · exact .inl ((mem_dbl h.nd).2 (.inr (.inl h1)))
    · rcases hgt x e1 h1 with ⟨rfl, rfl⟩ | ⟨_, h1⟩
      · rcases hn b h2 with h3 | ⟨h3, _⟩
        · exact .inl ((mem_dbl h.nd).2 (.inr (.inr ⟨x, e, he, h3⟩)))
        · exact .inr h3
      · exact .inl ((mem_dbl h.nd).2 (.inr (.inr ⟨x, e1, h1, h2⟩)))
/-- The row's cells written. -/
theorem dcs_st {R : Dwl} (hn : (keys R).Nodup) {id : Int} {e : Dw} (he : gt R id = some e) (k : Nat) (a : Option Addr) (n c : Nat) (l : List Int) :
    dcs (st R id ⟨a, n, c, ⟨k, l⟩⟩) = ((dcs R).set (ix R id * 3 + 1) (.int .i64 k)).set (ix R id * 3 + 2) (.slice a n c) := by
  rw [st_ix hn he]
  have h1 := ix_some he
  have h2 : (R.set (ix R id) (id, (⟨e.a, e.n, e.c, ⟨k, l⟩⟩ : Dw)))[ix R id]? = some (id, ⟨e.a, e.n, e.c, ⟨k, l⟩⟩) := by
    rw [List.getElem?_set_self (ix_lt he)]
  rw [dcs, dcs, fw_set dcs_len (y := (id, (⟨e.a, e.n, e.c, ⟨k, l⟩⟩ : Dw))) h1 1 (by decide) (.int .i64 k) rfl, fw_set dcs_len (y := (id, (⟨a, n, c, ⟨k, l⟩⟩ : Dw))) h2 2 (by decide) (.slice a n c) rfl, List.set_set]
end Go.Proofs.YtnlaegleekghmaaDoor
