/- The reader's answers, as lists (no program): what is taken of bytes, what is left, what is wrong; however the bytes are cut it is the same. -/
import Derived.Test.YtfbebifbfpkdaaaDoorRdrA
namespace Go.Proofs.YtfbebifbfpkdaaaDoor
open Go Go.RowKit

/-- A message: its object, its number, what is behind the eight bytes. -/
structure RV where
  o : Int
  p : Int
  s : ByteArray

/-- What is wrong with the first message; the first message. -/
def fE (l : List UInt8) : Nat := if hdE l ≠ 0 then hdE l else if l.length < hdS l then 2 else 0
def fM (l : List UInt8) : RV := ⟨hdO l, hdP l, ⟨((l.drop 8).take (hdS l - 8)).toArray⟩⟩

theorem hdE_zero {l : List UInt8} (h : hdE l = 0) : 8 ≤ l.length ∧ hdS l = hdZ l ∧ 8 ≤ hdS l ∧ hdS l ≤ 4096 := by
  have h' := h
  rw [hdE] at h'
  by_cases h8 : l.length < 8
  · rw [if_pos h8] at h'; cases h'
  rw [if_neg h8] at h'
  by_cases hb : hdZ l < 8 ∨ hdZ l % 4 ≠ 0
  · rw [if_pos hb] at h'; cases h'
  rw [if_neg hb] at h'
  by_cases hg : 4096 < hdZ l
  · rw [if_pos hg] at h'; cases h'
  have e : hdS l = hdZ l := by rw [hdS, if_pos h]
  rw [e]
  omega

theorem hdE_cases (l : List UInt8) : hdE l = 0 ∨ hdE l = 2 ∨ hdE l = 3 ∨ hdE l = 4 := by
  rw [hdE]
  split
  · exact .inr (.inl rfl)
  split
  · exact .inr (.inr (.inl rfl))
  split
  · exact .inr (.inr (.inr rfl))
  · exact .inl rfl

theorem hdE_two {l : List UInt8} (h : hdE l = 3 ∨ hdE l = 4) : 8 ≤ l.length := by
  rcases Nat.lt_or_ge l.length 8 with h8 | h8
  · rw [hdE, if_pos h8] at h
    omega
  · exact h8

theorem fE_zero {l : List UInt8} (h : fE l = 0) : hdE l = 0 ∧ hdS l ≤ l.length := by
  rw [fE] at h
  by_cases h0 : hdE l ≠ 0
  · rw [if_pos h0] at h
    exact absurd h h0
  · rw [if_neg h0] at h
    by_cases h1 : l.length < hdS l
    · rw [if_pos h1] at h; cases h
    · exact ⟨by omega, by omega⟩

theorem fE_cases (l : List UInt8) : fE l = 0 ∨ fE l = 2 ∨ fE l = 3 ∨ fE l = 4 := by
  rw [fE]
  have := hdE_cases l
  split
  · omega
  split
  · exact .inr (.inl rfl)
  · exact .inl rfl

theorem fE_bad {l : List UInt8} (h : fE l = 3 ∨ fE l = 4) : hdE l = fE l := by
  rw [fE] at h ⊢
  split
  · rfl
  · rename_i h0
    rw [if_neg h0] at h
    split at h <;> omega

theorem fE_drop {l : List UInt8} (h : fE l = 0) : (l.drop (hdS l)).length < l.length := by
  obtain ⟨h1, h2⟩ := fE_zero h
  obtain ⟨h3, _, h4, _⟩ := hdE_zero h1
  rw [List.length_drop]
  omega

/-- The messages that are whole, what is left behind them, what is wrong there. -/
def tk (l : List UInt8) : List RV × List UInt8 × Nat :=
  if _h : fE l = 0 then (fM l :: (tk (l.drop (hdS l))).1, (tk (l.drop (hdS l))).2)
  else if fE l = 2 then ([], l, 0) else ([], [], fE l)
termination_by l.length
decreasing_by all_goals exact fE_drop (by assumption)

theorem tk_zero {l : List UInt8} (h : fE l = 0) : tk l = (fM l :: (tk (l.drop (hdS l))).1, (tk (l.drop (hdS l))).2) := by rw [tk, dif_pos h]
theorem tk_short {l : List UInt8} (h : fE l = 2) : tk l = ([], l, 0) := by rw [tk, dif_neg (by omega), if_pos h]
theorem tk_bad {l : List UInt8} (h : fE l = 3 ∨ fE l = 4) : tk l = ([], [], fE l) := by rw [tk, dif_neg (by omega), if_neg (by omega)]

theorem num4_left (a b : List UInt8) (i : Nat) (h : i + 4 ≤ a.length) : num4 (a ++ b) i = num4 a i := by
  have e : ∀ j, j < a.length → (a ++ b).getD j 0 = a.getD j 0 := fun j hj => by rw [List.getD, List.getD, List.getElem?_append_left hj]
  unfold num4
  rw [e i (by omega), e (i + 1) (by omega), e (i + 2) (by omega), e (i + 3) (by omega)]

theorem hd_left (a b : List UInt8) (h : 8 ≤ a.length) : hdE (a ++ b) = hdE a ∧ hdO (a ++ b) = hdO a ∧ hdP (a ++ b) = hdP a ∧ hdS (a ++ b) = hdS a := by
  have h0 := num4_left a b 0 (by omega)
  have h4 := num4_left a b 4 (by omega)
  have hz : hdZ (a ++ b) = hdZ a := by rw [hdZ, hdZ, h4]
  have he : hdE (a ++ b) = hdE a := by
    rw [hdE, hdE, hz, if_neg (by rw [List.length_append]; omega), if_neg (show ¬ a.length < 8 by omega)]
  exact ⟨he, by rw [hdO, hdO, he, h0], by rw [hdP, hdP, he, h4], by rw [hdS, hdS, he, hz]⟩

theorem f_left {a : List UInt8} (h : fE a = 0) (b : List UInt8) : fE (a ++ b) = 0 ∧ fM (a ++ b) = fM a ∧ hdS (a ++ b) = hdS a ∧ (a ++ b).drop (hdS a) = a.drop (hdS a) ++ b := by
  obtain ⟨h1, h2⟩ := fE_zero h
  obtain ⟨h3, _, h4, _⟩ := hdE_zero h1
  obtain ⟨e1, e2, e3, e4⟩ := hd_left a b h3
  refine ⟨?_, ?_, e4, by rw [List.drop_append_of_le_length h2]⟩
  · rw [fE, e1, h1, e4, if_neg (by omega), if_neg (by rw [List.length_append]; omega)]
  · rw [fM, fM, e2, e3, e4, List.drop_append_of_le_length h3, List.take_append_of_le_length (by rw [List.length_drop]; omega)]

theorem f_bad {a : List UInt8} (h : fE a = 3 ∨ fE a = 4) (b : List UInt8) : fE (a ++ b) = fE a := by
  have e := fE_bad h
  have h8 := hdE_two (l := a) (by omega)
  rw [fE, (hd_left a b h8).1, e, if_pos (by omega)]

/-- However the bytes are cut. -/
theorem tk_append (a b : List UInt8) : tk (a ++ b) = if (tk a).2.2 = 0 then ((tk a).1 ++ (tk ((tk a).2.1 ++ b)).1, (tk ((tk a).2.1 ++ b)).2) else tk a := by
  rcases fE_cases a with h | h | h
  · obtain ⟨h1, h2, h3, h4⟩ := f_left h b
    rw [tk_zero h1, tk_zero h, h2, h3, h4, tk_append (a.drop (hdS a)) b]
    dsimp only
    split
    · rfl
    · rfl
  · rw [tk_short h]
    rfl
  · rw [tk_bad h, tk_bad (by rw [f_bad h]; exact h), f_bad h]
    dsimp only
    rw [if_neg (by omega)]
termination_by a.length
decreasing_by all_goals exact fE_drop h

theorem tk_err (a : List UInt8) : ((tk a).2.2 = 0 ∨ (tk a).2.2 = 3 ∨ (tk a).2.2 = 4) ∧ ((tk a).2.2 ≠ 0 → (tk a).2.1 = []) ∧ (tk a).1.length * 8 + (tk a).2.1.length ≤ a.length := by
  rcases fE_cases a with h | h | h
  · rw [tk_zero h]
    obtain ⟨h1, h2, h3⟩ := tk_err (a.drop (hdS a))
    refine ⟨h1, h2, ?_⟩
    obtain ⟨g1, g2⟩ := fE_zero h
    obtain ⟨g3, _, g4, _⟩ := hdE_zero g1
    rw [List.length_drop] at h3
    dsimp only
    rw [List.length_cons]
    omega
  · rw [tk_short h]
    exact ⟨.inl rfl, fun h => absurd rfl h, by simp⟩
  · rw [tk_bad h]
    exact ⟨.inr h, fun _ => rfl, by simp⟩
termination_by a.length
decreasing_by all_goals exact fE_drop h

theorem tk_nil : tk [] = ([], [], 0) := tk_short rfl

/-- A reader: what is left, what was wrong (0: nothing). -/
structure St where
  l : List UInt8
  k : Nat

/-- The messages that come with more bytes; the error; the reader behind them. -/
def fdM (s : St) (b : List UInt8) : List RV := if s.k = 0 then (tk (s.l ++ b)).1 else []
def fdE (s : St) (b : List UInt8) : Nat := if s.k = 0 then (tk (s.l ++ b)).2.2 else s.k
def fdS (s : St) (b : List UInt8) : St := if s.k = 0 then ⟨(tk (s.l ++ b)).2.1, (tk (s.l ++ b)).2.2⟩ else s

/-- The reader to which the bytes a came. -/
def at' (a : List UInt8) : St := ⟨(tk a).2.1, (tk a).2.2⟩

theorem fdS_at (a b : List UInt8) : fdS (at' a) b = at' (a ++ b) := by
  rw [fdS, at', at', tk_append a b]
  split <;> rfl
theorem fdM_at (a b : List UInt8) : (tk (a ++ b)).1 = (tk a).1 ++ fdM (at' a) b := by
  rw [fdM, at', tk_append a b]
  split
  · rfl
  · rw [List.append_nil]
theorem fdE_at (a b : List UInt8) : fdE (at' a) b = (tk (a ++ b)).2.2 := by
  rw [fdE, at', tk_append a b]
  split <;> rfl
end Go.Proofs.YtfbebifbfpkdaaaDoor
