/- The squares of a field of six by six. No program. -/
import Derived.Test.YtgogpckjlfgdcabRgfH
namespace Go.Proofs.Ytgogpckjlfgdcab
open Go Go.RowKit

def sqr (i : Nat) : Rc := ⟨3 * ((i % 6 : Nat) : Int), 2 * ((i / 6 : Nat) : Int), 3, 2⟩
theorem sqr_ck {i : Nat} (h : i < 36) : Ck (sqr i) := by
  refine ⟨by simp [sqr], by simp [sqr], ?_, ?_, ?_, ?_⟩ <;> (simp only [sqr]; omega)
theorem has_sqr {i : Nat} {x y : Int} : has (sqr i) x y = true ↔ 3 * ((i % 6 : Nat) : Int) ≤ x ∧ x < 3 * ((i % 6 : Nat) : Int) + 3 ∧ 2 * ((i / 6 : Nat) : Int) ≤ y ∧ y < 2 * ((i / 6 : Nat) : Int) + 2 := by
  rw [has_iff]
  simp only [sqr]
  omega
theorem sqr_one {i j : Nat} {x y : Int} (h : has (sqr i) x y = true) (h' : has (sqr j) x y = true) : i = j := by
  rw [has_sqr] at h h'
  omega
theorem sqr_int (i : Nat) (h : i < 36) : ∃ p q : Int, (i : Int).tmod 6 = p ∧ (i : Int).tdiv 6 = q ∧ (0 ≤ p ∧ p ≤ 5) ∧ (0 ≤ q ∧ q ≤ 5) ∧ sqr i = ⟨3 * p, 2 * q, 3, 2⟩ := by
  refine ⟨((i % 6 : Nat) : Int), ((i / 6 : Nat) : Int), ?_, ?_, by omega, by omega, rfl⟩
  · rw [Int.tmod_eq_emod_of_nonneg (by omega)]; omega
  · rw [Int.tdiv_eq_ediv_of_nonneg (by omega)]; omega
def gxs : List Int := [0, 3, 6, 9, 12, 15, 18]
def gys : List Int := [0, 2, 4, 6, 8, 10, 12]
theorem sqr_grid {i : Nat} (h : i < 36) : Grid gxs gys [sqr i] := ⟨fun r hr => by
  rw [List.mem_singleton] at hr
  subst hr
  have h1 : i % 6 = 0 ∨ i % 6 = 1 ∨ i % 6 = 2 ∨ i % 6 = 3 ∨ i % 6 = 4 ∨ i % 6 = 5 := by omega
  have h2 : i / 6 = 0 ∨ i / 6 = 1 ∨ i / 6 = 2 ∨ i / 6 = 3 ∨ i / 6 = 4 ∨ i / 6 = 5 := by omega
  simp only [sqr]
  refine ⟨?_, ?_, ?_, ?_⟩
  · rcases h1 with e | e | e | e | e | e <;> rw [e] <;> decide
  · rcases h1 with e | e | e | e | e | e <;> rw [e] <;> decide
  · rcases h2 with e | e | e | e | e | e <;> rw [e] <;> decide
  · rcases h2 with e | e | e | e | e | e <;> rw [e] <;> decide⟩

/-- The region of the squares from lo up to hi that are on. -/
structure Gs (t : Nat → Bool) (lo hi : Nat) (A : List Rc) : Prop where
  reg : Reg A
  grid : Grid gxs gys A
  pts : ∀ x y, pt A x y = true ↔ ∃ j, lo ≤ j ∧ j < hi ∧ t j = true ∧ has (sqr j) x y = true
theorem gs_nil (t : Nat → Bool) (lo : Nat) : Gs t lo lo [] := ⟨reg_nil, ⟨by simp⟩, fun x y => by
  rw [pt_nil]
  constructor
  · intro h; cases h
  · rintro ⟨j, h1, h2, _⟩; omega⟩
theorem gs_len {t : Nat → Bool} {lo hi : Nat} {A : List Rc} (h : Gs t lo hi A) : A.length ≤ 49 := grid_len h.reg.bands h.grid
theorem pt_sqr (i : Nat) (x y : Int) : pt [sqr i] x y = has (sqr i) x y := by simp [pt]
theorem gs_hi {t : Nat → Bool} {lo i : Nat} {A : List Rc} (h : Gs t lo i A) (hl : lo ≤ i) (hi : i < 36) (ht : t i = true) : Gs t lo (i + 1) (mk or A [sqr i]) :=
  ⟨(mk_all (f := or) rfl h.reg.ck (reg_one (sqr_ck hi)).ck).1, grid_mk rfl h.reg.ck (reg_one (sqr_ck hi)).ck h.grid (sqr_grid hi), fun x y => by
    rw [mkp rfl h.reg (reg_one (sqr_ck hi)), Bool.or_eq_true, h.pts, pt_sqr]
    constructor
    · rintro (⟨j, h1, h2, h3, h4⟩ | h1)
      · exact ⟨j, h1, by omega, h3, h4⟩
      · exact ⟨i, hl, by omega, ht, h1⟩
    · rintro ⟨j, h1, h2, h3, h4⟩
      rcases Nat.lt_or_ge j i with g | g
      · exact .inl ⟨j, h1, g, h3, h4⟩
      · obtain rfl : j = i := by omega
        exact .inr h4⟩
theorem gs_hi0 {t : Nat → Bool} {lo i : Nat} {A : List Rc} (h : Gs t lo i A) (ht : t i = false) : Gs t lo (i + 1) A :=
  ⟨h.reg, h.grid, fun x y => by
    rw [h.pts]
    constructor
    · rintro ⟨j, h1, h2, h3, h4⟩; exact ⟨j, h1, by omega, h3, h4⟩
    · rintro ⟨j, h1, h2, h3, h4⟩
      rcases Nat.lt_or_ge j i with g | g
      · exact ⟨j, h1, g, h3, h4⟩
      · obtain rfl : j = i := by omega
        rw [ht] at h3; cases h3⟩
theorem gs_lo {t : Nat → Bool} {i m : Nat} {A : List Rc} (h : Gs t (i + 1) m A) (hm : i < m) (hi : i < 36) (ht : t i = true) : Gs t i m (mk or A [sqr i]) :=
  ⟨(mk_all (f := or) rfl h.reg.ck (reg_one (sqr_ck hi)).ck).1, grid_mk rfl h.reg.ck (reg_one (sqr_ck hi)).ck h.grid (sqr_grid hi), fun x y => by
    rw [mkp rfl h.reg (reg_one (sqr_ck hi)), Bool.or_eq_true, h.pts, pt_sqr]
    constructor
    · rintro (⟨j, h1, h2, h3, h4⟩ | h1)
      · exact ⟨j, by omega, h2, h3, h4⟩
      · exact ⟨i, by omega, hm, ht, h1⟩
    · rintro ⟨j, h1, h2, h3, h4⟩
      rcases Nat.lt_or_ge i j with g | g
      · exact .inl ⟨j, g, h2, h3, h4⟩
      · obtain rfl : j = i := by omega
        exact .inr h4⟩
theorem gs_lo0 {t : Nat → Bool} {i m : Nat} {A : List Rc} (h : Gs t (i + 1) m A) (ht : t i = false) : Gs t i m A :=
  ⟨h.reg, h.grid, fun x y => by
    rw [h.pts]
    constructor
    · rintro ⟨j, h1, h2, h3, h4⟩; exact ⟨j, by omega, h2, h3, h4⟩
    · rintro ⟨j, h1, h2, h3, h4⟩
      rcases Nat.lt_or_ge i j with g | g
      · exact ⟨j, g, h2, h3, h4⟩
      · obtain rfl : j = i := by omega
        rw [ht] at h3; cases h3⟩
theorem gs_sub {t : Nat → Bool} {i m : Nat} {A : List Rc} (h : Gs t i m A) (hi : i < 36) : Gs t (i + 1) m (mk sub A [sqr i]) :=
  ⟨(mk_all (f := sub) rfl h.reg.ck (reg_one (sqr_ck hi)).ck).1, grid_mk rfl h.reg.ck (reg_one (sqr_ck hi)).ck h.grid (sqr_grid hi), fun x y => by
    rw [mkp (f := sub) rfl h.reg (reg_one (sqr_ck hi)), sub, Bool.and_eq_true, h.pts, pt_sqr]
    constructor
    · rintro ⟨⟨j, h1, h2, h3, h4⟩, h5⟩
      refine ⟨j, ?_, h2, h3, h4⟩
      rcases Nat.lt_or_ge i j with g | g
      · exact g
      · obtain rfl : j = i := by omega
        rw [h4] at h5
        cases h5
    · rintro ⟨j, h1, h2, h3, h4⟩
      refine ⟨⟨j, by omega, h2, h3, h4⟩, ?_⟩
      cases h5 : has (sqr i) x y
      · rfl
      · have := sqr_one h5 h4
        omega⟩
theorem gs_eq {t : Nat → Bool} {lo hi : Nat} {A B : List Rc} (h : Gs t lo hi A) (h' : Gs t lo hi B) : A = B := reg_eq h.reg h'.reg fun x y => by
  rw [Bool.eq_iff_iff, h.pts, h'.pts]
theorem gs_none {t : Nat → Bool} {m : Nat} {A : List Rc} (h : Gs t m m A) : A = [] := gs_eq h (gs_nil t m)
theorem gs_mid {t : Nat → Bool} {m : Nat} {A : List Rc} (h : Gs t 0 m A) (k : Nat) {p q : Int} (e : sqr k = ⟨3 * p, 2 * q, 3, 2⟩) : pt A (3 * p + 1) (2 * q + 1) = (decide (k < m) && t k) := by
  have hk : has (sqr k) (3 * p + 1) (2 * q + 1) = true := by rw [e, has_iff]; dsimp only; omega
  rw [Bool.eq_iff_iff, h.pts, Bool.and_eq_true, decide_eq_true_eq]
  constructor
  · rintro ⟨j, h1, h2, h3, h4⟩
    obtain rfl := sqr_one h4 hk
    exact ⟨h2, h3⟩
  · rintro ⟨h1, h2⟩
    exact ⟨k, by omega, h1, h2, hk⟩
theorem gs_area {t : Nat → Bool} {i : Nat} {A : List Rc} (h : Gs t 0 i A) (hi : i < 36) : area (mk or A [sqr i]) = area A + 6 := by
  have hr := reg_one (sqr_ck hi)
  have h1 := area_two (mk_all (f := or) rfl h.reg.ck hr.ck).1 reg_nil h.reg hr fun x y => by
    rw [mkp rfl h.reg hr, pt_nil, pt_sqr]
    cases h2 : pt A x y
    · cases h3 : has (sqr i) x y <;> rfl
    · cases h3 : has (sqr i) x y
      · rfl
      · obtain ⟨j, _, h4, _, h5⟩ := (h.pts x y).1 h2
        have := sqr_one h3 h5
        omega
  rw [area_nil] at h1
  have h2 : area [sqr i] = 6 := by simp [area, sqr]
  omega
end Go.Proofs.Ytgogpckjlfgdcab
