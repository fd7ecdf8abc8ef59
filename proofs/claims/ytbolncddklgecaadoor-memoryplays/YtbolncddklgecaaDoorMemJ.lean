/- The document's memories: in, Size, Set. -/
import Derived.Test.YtbolncddklgecaaDoorMemH
import Derived.Laws.Rows
namespace Go.Proofs.YtbolncddklgecaaDoor
open Go Go.RowKit

/-- A memory of the document's: its slice, its bytes. -/
abbrev Do := Option (Value × List UInt8)

def dsl : Do → Value
  | none => .slice none 0 0
  | some x => x.1
def dupd (d : Int → Do) (k : Int) (x : Do) : Int → Do := fun i => if i = k then x else d i
theorem dupd_same (d : Int → Do) (k : Int) (x : Do) : dupd d k x k = x := by simp [dupd]
theorem dupd_other (d : Int → Do) {k i : Int} (h : i ≠ k) (x : Do) : dupd d k x i = d i := by simp [dupd, h]

/-- The document's cells: 256 slices, 256 truths. -/
def dmc (d : Int → Do) : Array Value := Array.ofFn (n := 512) fun j => if j.val < 256 then dsl (d (j.val : Nat)) else .bool (d ((j.val - 256 : Nat) : Int)).isSome

theorem dmc_size (d : Int → Do) : (dmc d).size = 512 := by simp [dmc]
theorem dmc_lo (d : Int → Do) (i : Nat) (h : i < 256) : (dmc d)[i]? = some (dsl (d i)) := by
  rw [dmc, Array.getElem?_ofFn, dif_pos (by omega)]
  simp only [if_pos h]
theorem dmc_hi (d : Int → Do) (i : Nat) (h : i < 256) : (dmc d)[256 + i]? = some (.bool (d i).isSome) := by
  rw [dmc, Array.getElem?_ofFn, dif_pos (by omega)]
  simp only [if_neg (show ¬ 256 + i < 256 by omega), show 256 + i - 256 = i by omega]
theorem dmc_set (d : Int → Do) (i : Nat) (h : i < 256) (x : Value × List UInt8) : ((dmc d).setIfInBounds i x.1).setIfInBounds (256 + i) (.bool true) = dmc (dupd d i (some x)) := by
  apply Array.ext_getElem?
  intro j
  rcases Nat.lt_or_ge j 512 with hj | hj
  · rw [Array.getElem?_setIfInBounds, Array.getElem?_setIfInBounds]
    simp only [Array.size_setIfInBounds, dmc_size]
    by_cases h1 : 256 + i = j
    · subst h1
      rw [if_pos rfl, if_pos hj, dmc_hi _ i h, dupd_same]
      rfl
    · rw [if_neg h1]
      by_cases h2 : i = j
      · subst h2
        rw [if_pos rfl, if_pos hj, dmc_lo _ i h, dupd_same]
        rfl
      · rw [if_neg h2, dmc, dmc, Array.getElem?_ofFn, Array.getElem?_ofFn, dif_pos hj, dif_pos hj]
        simp only
        by_cases h3 : j < 256
        · rw [if_pos h3, if_pos h3, dupd_other d (by omega)]
        · rw [if_neg h3, if_neg h3, dupd_other d (by omega)]
  · rw [Array.getElem?_eq_none (by simp [dmc_size]; omega), Array.getElem?_eq_none (by rw [dmc_size]; omega)]
theorem dmc_put (d : Int → Do) (i : Nat) (h : i < 256) (hs : (d i).isSome = true) (x : Value × List UInt8) : (dmc d).setIfInBounds i x.1 = dmc (dupd d i (some x)) := by
  rw [← dmc_set d i h x]
  apply Array.ext_getElem?
  intro j
  by_cases h1 : 256 + i = j
  · subst h1
    rw [Array.getElem?_setIfInBounds_self_of_lt (by simp [dmc_size]; omega), Array.getElem?_setIfInBounds_ne (by omega), dmc_hi d i h, hs]
  · rw [Array.getElem?_setIfInBounds_ne (xs := (dmc d).setIfInBounds i x.1) h1]

/-- The document's memories at q are d. -/
structure Dm (base : Nat) (w : World) (q : Nat) (d : Int → Do) : Prop where
  lo : base ≤ q
  var : w.heap[q]? = some (.cells (dmc d) 30 (0, 0))
  dom : ∀ k, (d k).isSome = true → 1 ≤ k ∧ k ≤ 255
  row : ∀ k x, d k = some x → w.ownsRow base 5 1 x.1 x.2.length (bc x.2) ∧ (∀ j, x.1.ownBlock = some j → j ≠ q) ∧ x.2.length ≤ 65536

theorem Dm.kept {base : Nat} {w w' : World} {q : Nat} {d : Int → Do} {X : List Nat} (h : Dm base w q d) (hk : Kp X w w') (hq : q ∉ X) (hr : ∀ k x j, d k = some x → x.1.ownBlock = some j → j ∉ X) : Dm base w' q d :=
  ⟨h.lo, hk.var h.var hq, h.dom, fun k x e => by
    obtain ⟨r1, r2, r3⟩ := h.row k x e
    exact ⟨hk.row r1 (fun j hj => hr k x j e hj), r2, r3⟩⟩
theorem Dm.on {base : Nat} {w w' : World} {q : Nat} {d : Int → Do} (h : Dm base w q d) (hb : Below w.heap.size w w') : Dm base w' q d := h.kept (kp_of_below hb []) (by simp) (fun _ _ _ _ _ => by simp)
theorem Dm.lt {base : Nat} {w : World} {q : Nat} {d : Int → Do} (h : Dm base w q d) : q < w.heap.size := (Array.getElem?_eq_some_iff.1 h.var).1
theorem Dm.cl {base : Nat} {w : World} {q : Nat} {d : Int → Do} (h : Dm base w q d) (i : Nat) (hi : i < 256) : w.cell? ⟨q, i, none⟩ = some (dsl (d i)) := by rw [Lib.cell_of_heap h.var]; exact dmc_lo d i hi
theorem Dm.ch {base : Nat} {w : World} {q : Nat} {d : Int → Do} (h : Dm base w q d) (i : Nat) (hi : i < 256) : w.cell? ⟨q, 256 + i, none⟩ = some (.bool (d i).isSome) := by rw [Lib.cell_of_heap h.var]; exact dmc_hi d i hi

/-- The same bytes in both. -/
def Ag (s : Int → Mo) (d : Int → Do) : Prop := ∀ k, (s k).map (·.2) = (d k).map (·.2)

theorem Ag.isSome {s : Int → Mo} {d : Int → Do} (h : Ag s d) (k : Int) : (d k).isSome = (s k).isSome := by
  have := h k
  cases h1 : s k <;> cases h2 : d k <;> simp [h1, h2] at this ⊢
theorem Ag.rd {base : Nat} {w : World} {q : Nat} {s : Int → Mo} {d : Int → Do} (h : Ag s d) (hD : Dm base w q d) (k : Int) : ∃ ao m c, dsl (d k) = .slice ao m c ∧ Rd w ao m c (by_ (s k)) ∧ m ≤ 65536 := by
  have h1 := h k
  cases e : d k with
  | none =>
    rw [e] at h1
    cases e2 : s k with
    | none => exact ⟨none, 0, 0, rfl, Rd.nil w, by omega⟩
    | some r => rw [e2] at h1; simp at h1
  | some x =>
    rw [e] at h1
    cases e2 : s k with
    | none => rw [e2] at h1; simp at h1
    | some r =>
      rw [e2] at h1
      have hx : r.2 = x.2 := by simpa using h1
      obtain ⟨r1, r2, r3⟩ := hD.row k x e
      obtain ⟨a, c, hv, hr, _⟩ := rd_of_owns r1
      exact ⟨a, x.2.length, c, hv, by rw [show by_ (some r) = r.2 from rfl, hx]; exact hr, r3⟩
theorem Ag.upd {s : Int → Mo} {d : Int → Do} (h : Ag s d) (k : Int) (g : Nat) (v : Value) (l : List UInt8) : Ag (mupd s k (some (g, l))) (dupd d k (some (v, l))) := fun i => by
  by_cases e : i = k
  · rw [e, mupd_same, dupd_same]; rfl
  · rw [mupd_other s e, dupd_other d e]; exact h i

/-- Only new blocks beside the old ones. -/
def Fr (w : World) (d d' : Int → Do) : Prop := ∀ k x j, d' k = some x → x.1.ownBlock = some j → d k = some x ∨ w.heap.size ≤ j

theorem dmc_zero : dmc (fun _ => none) = Array.replicate 256 (.slice none 0 0) ++ Array.replicate 256 (.bool false) := by
  apply Array.ext
  · simp [dmc]
  · intro i h1 h2
    simp only [dmc, Array.getElem_ofFn, Array.getElem_append, Array.size_replicate, Array.getElem_replicate]
    split <;> rfl

theorem zM (w : World) : (zeroValue 30).run Tryd.prog w = .ok (.agg (dmc fun _ => none)) w := by
  rw [dmc_zero]
  kernel_rfl

variable {base : Nat} {w : World} {q : Nat} {s : Int → Mo} {d : Int → Do}

set_option maxRecDepth 100000 in
theorem rin_any (hD : Dm base w q d) (hag : Ag s d) (k : Int) :
    Calls Tryd.prog 24 #[.pointer (some ⟨q, 0, none⟩), .int .i64 k] w fun e w' => e = .returned (.bool (s k).isSome) ∧ w' = w := by
  rw [← hag.isSome k]
  have no : (¬ (1 ≤ k ∧ k ≤ 255)) → (d k).isSome = false := fun h => by
    cases e : (d k).isSome with
    | false => rfl
    | true => exact absurd (hD.dom k e) h
  have hlt := hD.lt
  by_cases h1 : 1 ≤ k
  · have e1 : decide (1 ≤ k) = true := decide_eq_true h1
    by_cases h2 : k ≤ 255
    · have e2 : decide (k ≤ 255) = true := decide_eq_true h2
      obtain ⟨i, rfl⟩ : ∃ i : Nat, k = i := ⟨k.toNat, by omega⟩
      have c0 := hD.ch i (by omega)
      generalize (d (i : Int)).isSome = t at *
      clear hD hag
      go_enter Tryd.func24, Tryd.ntmps24
      go_wp2
      go_ret
      exact ⟨rfl, rfl⟩
    · have e2 : decide (k ≤ 255) = false := decide_eq_false h2
      rw [no (by omega)]
      clear hD hag no
      go_enter Tryd.func24, Tryd.ntmps24
      go_wp2
      go_ret
      exact ⟨rfl, rfl⟩
  · have e1 : decide (1 ≤ k) = false := decide_eq_false h1
    rw [no (by omega)]
    clear hD hag no
    go_enter Tryd.func24, Tryd.ntmps24
    go_wp2
    go_ret
    exact ⟨rfl, rfl⟩

set_option maxRecDepth 100000 in
theorem rsize_any (hD : Dm base w q d) (hag : Ag s d) (k : Int) :
    Calls Tryd.prog 19 #[.pointer (some ⟨q, 0, none⟩), .int .i64 k] w fun e w' => e = .returned (.int .i64 (szI (s k))) ∧ w' = w := by
  have HI := hid (rin_any hD hag k)
  have hlt := hD.lt
  cases e : s k with
  | none =>
    rw [e] at HI
    clear hD hag e
    go_enter Tryd.func19, Tryd.ntmps19
    go_wp2_with fail
    refine HI.out.mono ?_
    rintro e w1 ⟨rfl, rfl⟩
    rw [Option.isSome_none]
    go_wp2
    go_ret
    exact ⟨rfl, rfl⟩
  | some r =>
    rw [e] at HI
    have hk := hD.dom k (by rw [hag.isSome k, e]; rfl)
    obtain ⟨ao, m, c, hv, hr, hm⟩ := hag.rd hD k
    have hlen := hr.len
    rw [e] at hlen
    have HS : Hid (szI (some r) = m) := by rw [Hid, ← hlen]; rfl
    obtain ⟨i, rfl⟩ : ∃ i : Nat, k = i := ⟨k.toNat, by omega⟩
    have c0 := hD.cl i (by omega)
    rw [hv] at c0
    clear hD hag e hv hr hlen
    go_enter Tryd.func19, Tryd.ntmps19
    go_wp2_with fail
    refine HI.out.mono ?_
    rintro e w1 ⟨rfl, rfl⟩
    rw [Option.isSome_some]
    go_wp2
    go_ret
    rw [HS.out]
    exact ⟨rfl, rfl⟩
end Go.Proofs.YtbolncddklgecaaDoor
