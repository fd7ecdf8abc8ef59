/- Points of cuts, covers, what is moved, what is bound. -/
import Derived.Test.YtlkodgmnhphfcaaRectL
namespace Go.Proofs.Ytlkodgmnhphfcaa
open Go Go.RowKit

variable {a b : Rc}

theorem rz_ok : rz.Ok := ⟨by decide, by decide, by decide, by decide⟩
theorem has_emp (h : emp a = true) (x y : Int) : has a x y = false := by simp [has, h]
theorem has_rz (x y : Int) : has rz x y = false := has_emp rfl x y

theorem cut_ok (ha : may a = true) (hb : may b = true) : (cut a b).Ok := by
  rcases may_cases ha with he | ka
  · rw [cut_emp1 he]; exact rz_ok
  · rcases may_cases hb with hf | kb
    · rw [cut_emp2 a hf]; exact rz_ok
    · cases hc : emp (cut a b)
      · exact (cut_ck ka kb hc).ok
      · rw [cut_rz ka kb hc]; exact rz_ok
theorem cov_may (ha : may a = true) (hb : may b = true) : cov a b = rz ∨ Ck (cov a b) := by
  rcases may_cases ha with he | ka
  · rw [cov_emp1 he]
    rcases may_cases hb with hf | kb
    · exact .inl (pln_emp hf)
    · rw [pln_full kb.emp]; exact .inr kb
  · rcases may_cases hb with hf | kb
    · rw [cov_emp2 ka.emp hf]; exact .inr ka
    · exact .inr (cov_ck ka kb)
theorem cov_ok (ha : may a = true) (hb : may b = true) : (cov a b).Ok := by
  rcases cov_may ha hb with h | h
  · rw [h]; exact rz_ok
  · exact h.ok
theorem bnd_may (ha : may a = true) : emp a = true ∧ bnd a = rz ∨ bnd a = a := by
  rcases may_cases ha with he | ka
  · exact .inl ⟨he, bnd_emp he⟩
  · exact .inr (bnd_ck ka)
theorem bnd_ok (ok : a.Ok) (ha : may a = true) : (bnd a).Ok := by
  rcases bnd_may ha with ⟨_, h⟩ | h
  · rw [h]; exact rz_ok
  · rw [h]; exact ok
theorem has_bnd (ha : may a = true) (x y : Int) : has (bnd a) x y = has a x y := by
  rcases bnd_may ha with ⟨he, h⟩ | h
  · rw [h, has_rz, has_emp he]
  · rw [h]
theorem has_in (ha : may a = true) {x y : Int} (h : has a x y = true) : -16777216 ≤ x ∧ x < 16777216 ∧ -16777216 ≤ y ∧ y < 16777216 := by
  rcases may_cases ha with he | ⟨k1, k2, k3, k4, k5, k6⟩
  · rw [has_emp he] at h; cases h
  · have := has_iff.1 h
    omega
theorem sh_ok (ha : may a = true) {u v : Nat} (hu : u < 16777216) (hv : v < 16777216) : (sh a u v).Ok := by
  rcases may_cases ha with he | ka
  · rw [sh_emp he]; exact rz_ok
  · rw [sh_full ka.emp]
    obtain ⟨k1, k2, k3, k4, k5, k6⟩ := ka
    exact ⟨by dsimp only; omega, by dsimp only; omega, by dsimp only; omega, by dsimp only; omega⟩
theorem has_sh (a : Rc) (x y u v : Int) : has (sh a u v) (x + u) (y + v) = has a x y := by
  cases he : emp a
  · rw [sh_full he]
    apply Bool.eq_iff_iff.2
    rw [has_iff, has_iff]
    dsimp only
    omega
  · rw [sh_emp he, has_rz, has_emp he]
theorem has_cut (ha : may a = true) (hb : may b = true) (x y : Int) : has (cut a b) x y = (has a x y && has b x y) := by
  rcases may_cases ha with he | ka
  · rw [cut_emp1 he, has_rz, has_emp he]; rfl
  · rcases may_cases hb with hf | kb
    · rw [cut_emp2 a hf, has_rz, has_emp hf, Bool.and_false]
    · apply Bool.eq_iff_iff.2
      rw [Bool.and_eq_true, has_iff, has_iff, has_iff]
      have s := cut_sum ka kb
      obtain ⟨k1, k2, k3, k4, k5, k6⟩ := ka
      obtain ⟨l1, l2, l3, l4, l5, l6⟩ := kb
      rw [s]
      by_cases h1 : min (a.x + a.w) (b.x + b.w) ≤ max a.x b.x
      · rw [oft_left h1]
        simp only [rz]
        omega
      · by_cases h2 : min (a.y + a.h) (b.y + b.h) ≤ max a.y b.y
        · rw [oft_top h2]
          simp only [rz]
          omega
        · rw [oft_full h1 h2]
          dsimp only
          omega
theorem has_cov (ha : may a = true) (hb : may b = true) {x y : Int} (h : has a x y = true ∨ has b x y = true) : has (cov a b) x y = true := by
  rcases may_cases ha with he | ka
  · rw [cov_emp1 he]
    rcases h with h | h
    · rw [has_emp he] at h; cases h
    · rcases may_cases hb with hf | kb
      · rw [has_emp hf] at h; cases h
      · rw [pln_full kb.emp]; exact h
  · rcases may_cases hb with hf | kb
    · rw [cov_emp2 ka.emp hf]
      rcases h with h | h
      · exact h
      · rw [has_emp hf] at h; cases h
    · rw [cov_sum ka kb]
      rw [has_iff, has_iff] at h
      rw [has_iff]
      dsimp only
      omega
end Go.Proofs.Ytlkodgmnhphfcaa
