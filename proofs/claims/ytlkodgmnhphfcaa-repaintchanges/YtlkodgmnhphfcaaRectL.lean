/- Cuts and covers, in numbers. -/
import Derived.Test.YtlkodgmnhphfcaaRectK
namespace Go.Proofs.Ytlkodgmnhphfcaa
open Go Go.RowKit

variable {a b : Rc}

theorem cvr_ok (ha : Ck a) (hb : Ck b) : (cvr a b).Ok := by
  have e1 := ha.enx
  have e2 := ha.eny
  have e3 := hb.enx
  have e4 := hb.eny
  obtain ⟨k1, k2, k3, k4, k5, k6⟩ := ha
  obtain ⟨l1, l2, l3, l4, l5, l6⟩ := hb
  rw [cvr, e1, e2, e3, e4]
  exact ⟨by dsimp only; omega, by dsimp only; omega, by dsimp only; omega, by dsimp only; omega⟩

theorem may_ck (h : may a = true) (he : emp a = false) : Ck a := (may_cases h).resolve_left (by rw [he]; decide)

theorem cut_sum (ka : Ck a) (kb : Ck b) : cut a b = oft (max a.x b.x) (max a.y b.y) (min (a.x + a.w) (b.x + b.w)) (min (a.y + a.h) (b.y + b.h)) := by
  rw [cut_full ka.emp kb.emp, ka.enx, ka.eny, kb.enx, kb.eny]
theorem cov_sum (ka : Ck a) (kb : Ck b) : cov a b = ⟨min a.x b.x, min a.y b.y, max (a.x + a.w) (b.x + b.w) - min a.x b.x, max (a.y + a.h) (b.y + b.h) - min a.y b.y⟩ := by
  rw [cov_full ka.emp kb.emp, cvr, ka.enx, ka.eny, kb.enx, kb.eny]

theorem cov_ck (ka : Ck a) (kb : Ck b) : Ck (cov a b) := by
  rw [cov_sum ka kb]
  obtain ⟨k1, k2, k3, k4, k5, k6⟩ := ka
  obtain ⟨l1, l2, l3, l4, l5, l6⟩ := kb
  exact ⟨by dsimp only; omega, by dsimp only; omega, by dsimp only; omega, by dsimp only; omega, by dsimp only; omega, by dsimp only; omega⟩

theorem cut_comm (a b : Rc) : cut a b = cut b a := by
  unfold cut
  rw [Int.max_comm a.x, Int.max_comm a.y, Int.min_comm (en a.x a.w), Int.min_comm (en a.y a.h)]
  by_cases h : emp a = true ∨ emp b = true
  · rw [if_pos h, if_pos h.symm]
  · rw [if_neg h, if_neg (fun h' => h h'.symm)]

theorem cov_comm (ka : Ck a) (kb : Ck b) : cov a b = cov b a := by
  rw [cov_sum ka kb, cov_sum kb ka, Rc.mk.injEq]
  omega

theorem cut_self (ka : Ck a) : cut a a = a := by
  rw [cut_sum ka ka]
  obtain ⟨k1, k2, k3, k4, k5, k6⟩ := ka
  rw [oft_full (by omega) (by omega)]
  cases a
  rw [Rc.mk.injEq]
  dsimp only
  omega
theorem cov_self (ka : Ck a) : cov a a = a := by
  rw [cov_sum ka ka]
  cases a
  rw [Rc.mk.injEq]
  dsimp only
  omega
theorem cut_cov (ka : Ck a) (kb : Ck b) : cut a (cov a b) = a := by
  rw [cut_sum ka (cov_ck ka kb), cov_sum ka kb]
  obtain ⟨k1, k2, k3, k4, k5, k6⟩ := ka
  obtain ⟨l1, l2, l3, l4, l5, l6⟩ := kb
  dsimp only
  rw [oft_full (by omega) (by omega)]
  cases a
  rw [Rc.mk.injEq]
  dsimp only
  omega
theorem bnd_ck (ka : Ck a) : bnd a = a := by
  have h := dck_iff.2 ka
  rw [← chk_dck ka.ok, chk, Bool.and_eq_true, rceq_iff] at h
  exact h.2

/-- The cut of two that have points: nothing, or with these numbers. -/
theorem cut_two (ka : Ck a) (kb : Ck b) : cut a b = rz ∨ (cut a b = ⟨max a.x b.x, max a.y b.y, min (a.x + a.w) (b.x + b.w) - max a.x b.x, min (a.y + a.h) (b.y + b.h) - max a.y b.y⟩ ∧ max a.x b.x < min (a.x + a.w) (b.x + b.w) ∧ max a.y b.y < min (a.y + a.h) (b.y + b.h)) := by
  rw [cut_sum ka kb]
  by_cases h1 : min (a.x + a.w) (b.x + b.w) ≤ max a.x b.x
  · exact .inl (oft_left h1)
  · by_cases h2 : min (a.y + a.h) (b.y + b.h) ≤ max a.y b.y
    · exact .inl (oft_top h2)
    · exact .inr ⟨oft_full h1 h2, Int.not_le.1 h1, Int.not_le.1 h2⟩

theorem cut_rz (ka : Ck a) (kb : Ck b) (he : emp (cut a b) = true) : cut a b = rz := by
  rcases cut_two ka kb with h | ⟨h, h1, h2⟩
  · exact h
  · rw [h] at he
    simp [emp] at he
    omega
theorem cut_ck (ka : Ck a) (kb : Ck b) (he : emp (cut a b) = false) : Ck (cut a b) := by
  rcases cut_two ka kb with h | ⟨h, h1, h2⟩
  · rw [h] at he
    exact absurd he (by decide)
  · rw [h]
    obtain ⟨k1, k2, k3, k4, k5, k6⟩ := ka
    obtain ⟨l1, l2, l3, l4, l5, l6⟩ := kb
    exact ⟨by dsimp only; omega, by dsimp only; omega, by dsimp only; omega, by dsimp only; omega, by dsimp only; omega, by dsimp only; omega⟩
theorem cov_cut (ka : Ck a) (kb : Ck b) (he : emp (cut a b) = false) : cov a (cut a b) = a := by
  rw [cov_sum ka (cut_ck ka kb he)]
  rcases cut_two ka kb with h | ⟨h, h1, h2⟩
  · rw [h] at he
    exact absurd he (by decide)
  · rw [h]
    obtain ⟨k1, k2, k3, k4, k5, k6⟩ := ka
    cases a
    rw [Rc.mk.injEq]
    dsimp only
    dsimp only at h1 h2
    omega
end Go.Proofs.Ytlkodgmnhphfcaa
