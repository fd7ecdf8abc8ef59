/- Windows by their numbers: how far each is, and its serials; what each call answers and leaves. No program. -/
import Derived.Test.YtnlaegleekghmaaDoorLibM
import Derived.Test.YtnlaegleekghmaaDoorOrdA
namespace Go.Proofs.YtnlaegleekghmaaDoor
open Go Go.RowKit

/-- A window. -/
structure Wn where
  step : Nat
  ser : List Int
abbrev Wo := List (Int × Wn)
/-- A call's turn of a window; none: it stays. -/
def wUp (F : Wo) (id : Int) (f : Wn → Option Wn) : Wo := match gt F id with
  | none => F
  | some x => match f x with
    | none => F
    | some y => st F id y
def wHas (F : Wo) (id : Int) : Bool := (gt F id).isSome
def wStep (F : Wo) (id : Int) : Int := match gt F id with
  | none => -1
  | some x => x.step
def wSer (F : Wo) (id : Int) : List Int := match gt F id with
  | none => []
  | some x => x.ser
def wIsTop (F : Wo) (id : Int) : Bool := match gt F id with
  | none => false
  | some x => decide (1 ≤ x.step)
def wMapd (F : Wo) (id : Int) : Bool := match gt F id with
  | none => false
  | some x => x.step == 4
/-- The errors by their numbers. -/
def wErr (F : Wo) (id : Int) (f : Wn → Nat) : Nat := match gt F id with
  | none => 5
  | some x => f x
def wAddE (F : Wo) (id : Int) (b : Bool) : Nat := match gt F id with
  | none => bif b then 12 else 0
  | some _ => 10
def wAddF (F : Wo) (id : Int) (b : Bool) : Wo := match gt F id with
  | none => bif b then F else F ++ [(id, ⟨0, []⟩)]
  | some _ => F
def wDrpE (F : Wo) (id : Int) : Nat := wErr F id fun x => if x.step = 0 then 0 else 12
def wDrpF (F : Wo) (id : Int) : Wo := match gt F id with
  | none => F
  | some x => if x.step = 0 then rm F id else F
def wTopE (F : Wo) (id : Int) : Nat := wErr F id fun x => if x.step = 0 then 0 else 10
def topS (x : Wn) : Option Wn := if x.step = 0 then some ⟨1, x.ser⟩ else none
def wUntE (F : Wo) (id : Int) : Nat := wErr F id fun x => if x.step = 0 then 5 else 0
def untS (x : Wn) : Option Wn := if x.step = 0 then none else some ⟨0, []⟩
def sndS (z : Int) (x : Wn) : Option Wn := if x.step = 0 then none else some ⟨x.step, x.ser ++ [z]⟩
def ackE (z : Int) (x : Wn) : Nat := if x.step = 0 then 12 else if (zx z x.ser).isSome then 0 else 13
def wAckE (F : Wo) (id z : Int) : Nat := wErr F id (ackE z)
def ackS (z : Int) (x : Wn) : Option Wn := if x.step = 0 then none else match zx z x.ser with
  | none => none
  | some i => some ⟨if x.step = 2 then 3 else x.step, x.ser.drop (i + 1)⟩
def mayE (b : Bool) (k : Nat) : Nat := if k = 0 then 12 else if k < 3 then (bif b then 12 else 0) else 0
def wComE (F : Wo) (id : Int) (b : Bool) : Nat := wErr F id fun x => mayE b x.step
def trnN (b : Bool) (k : Nat) : Nat := if k = 1 then 1 else if k = 3 then (bif b then 2 else 0) else if k = 4 then (bif b then 0 else 3) else 0
def trnS (b : Bool) (x : Wn) : Option Wn := if x.step = 1 then some ⟨2, x.ser⟩ else if x.step = 3 then (bif b then some ⟨4, x.ser⟩ else none) else if x.step = 4 then (bif b then none else some ⟨1, []⟩) else none
def comS (b : Bool) (x : Wn) : Option Wn := if mayE b x.step = 0 then trnS b x else none
def wComN (F : Wo) (id : Int) (b : Bool) : Nat := match gt F id with
  | none => 0
  | some x => if mayE b x.step = 0 then trnN b x.step else 0

theorem wUp_gt (F : Wo) (id : Int) (f : Wn → Option Wn) (x : Int) : gt (wUp F id f) x = if x = id then (gt F id).map (fun y => (f y).getD y) else gt F x := by
  unfold wUp
  cases h : gt F id with
  | none =>
    simp only [Option.map_none]
    split
    · rename_i e
      rw [e, h]
    · rfl
  | some y =>
    simp only [Option.map_some]
    cases hf : f y with
    | none =>
      simp only [Option.getD_none]
      split
      · rename_i e
        rw [e, h]
      · rfl
    | some z =>
      simp only [Option.getD_some]
      rw [gt_st, h]
      rfl
theorem wUp_keys (F : Wo) (id : Int) (f : Wn → Option Wn) : keys (wUp F id f) = keys F := by
  unfold wUp
  split
  · rfl
  · split
    · rfl
    · exact keys_st _ _ _

/-- How many there are, and how many serials. -/
structure Wfew (m : Nat) (F : Wo) : Prop where
  nd : (keys F).Nodup
  len : F.length ≤ m
  ser : ∀ x e, gt F x = some e → e.ser.length ≤ m
variable {m : Nat} {F : Wo}
theorem wfew_nil : Wfew 0 [] := ⟨List.nodup_nil, Nat.le_refl _, fun x e h => by cases h⟩
theorem Wfew.mono (h : Wfew m F) {n : Nat} (hn : m ≤ n) : Wfew n F := ⟨h.nd, Nat.le_trans h.len hn, fun x e he => Nat.le_trans (h.ser x e he) hn⟩
theorem Wfew.up (h : Wfew m F) (id : Int) (f : Wn → Option Wn) (hf : ∀ x y, f x = some y → y.ser.length ≤ x.ser.length + 1) : Wfew (m + 1) (wUp F id f) := by
  refine ⟨by rw [wUp_keys]; exact h.nd, ?_, fun x e he => ?_⟩
  · have : (wUp F id f).length = F.length := by
      have := congrArg List.length (wUp_keys F id f)
      simpa [keys] using this
    have := h.len
    omega
  · rw [wUp_gt] at he
    split at he
    · cases hg : gt F id with
      | none => rw [hg] at he; cases he
      | some y =>
        rw [hg] at he
        simp only [Option.map_some, Option.some.injEq] at he
        have := h.ser id y hg
        cases hy : f y with
        | none =>
          rw [hy] at he
          simp only [Option.getD_none] at he
          rw [← he]
          omega
        | some z =>
          rw [hy] at he
          simp only [Option.getD_some] at he
          have := hf y z hy
          rw [← he]
          omega
    · have := h.ser x e he
      omega
theorem Wfew.add (h : Wfew m F) (id : Int) (b : Bool) : Wfew (m + 1) (wAddF F id b) := by
  unfold wAddF
  cases hg : gt F id with
  | some x => exact h.mono (by omega)
  | none =>
    cases b with
    | true => exact h.mono (by omega)
    | false =>
      have hw : wr F id (⟨0, []⟩ : Wn) = F ++ [(id, ⟨0, []⟩)] := by rw [wr, hg]; rfl
      have := keys_wr h.nd id (⟨0, []⟩ : Wn)
      have hl := h.len
      rw [hw] at this
      refine ⟨this, by simp; omega, fun x e he => ?_⟩
      simp only [cond_false] at he
      rw [← hw, gt_wr] at he
      split at he
      · cases he
        simp
      · have := h.ser x e he
        omega
theorem Wfew.drp (h : Wfew m F) (id : Int) : Wfew (m + 1) (wDrpF F id) := by
  unfold wDrpF
  cases hg : gt F id with
  | none => exact h.mono (by omega)
  | some x =>
    simp only
    split
    · refine ⟨keys_rm h.nd id, by have := rm_length F id; have := h.len; omega, fun x e he => ?_⟩
      rw [gt_rm] at he
      split at he
      · cases he
      · have := h.ser x e he
        omega
    · exact h.mono (by omega)
theorem topS_len (x y : Wn) (h : topS x = some y) : y.ser.length ≤ x.ser.length + 1 := by
  unfold topS at h
  split at h
  · cases h
    simp
  · cases h
theorem untS_len (x y : Wn) (h : untS x = some y) : y.ser.length ≤ x.ser.length + 1 := by
  unfold untS at h
  split at h
  · cases h
  · cases h
    simp
theorem sndS_len (z : Int) (x y : Wn) (h : sndS z x = some y) : y.ser.length ≤ x.ser.length + 1 := by
  unfold sndS at h
  split at h
  · cases h
  · cases h
    simp
theorem ackS_len (z : Int) (x y : Wn) (h : ackS z x = some y) : y.ser.length ≤ x.ser.length + 1 := by
  unfold ackS at h
  split at h
  · cases h
  · split at h
    · cases h
    · cases h
      simp
      omega
theorem trnS_len (b : Bool) (x y : Wn) (h : trnS b x = some y) : y.ser.length ≤ x.ser.length + 1 := by
  unfold trnS at h
  cases b <;> simp only [cond_true, cond_false] at h
  all_goals
    split at h
    · cases h
      simp
    · split at h
      · cases h <;> simp
      · split at h
        · cases h <;> simp
        · cases h
theorem comS_len (b : Bool) (x y : Wn) (h : comS b x = some y) : y.ser.length ≤ x.ser.length + 1 := by
  unfold comS at h
  split at h
  · exact trnS_len b x y h
  · cases h
end Go.Proofs.YtnlaegleekghmaaDoor
