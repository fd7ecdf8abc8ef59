/- The document's own Bound; may, awake; the program's Check is the document's. -/
import Derived.Test.YtgogpckjlfgdcabRectG
namespace Go.Proofs.Ytgogpckjlfgdcab
open Go Go.RowKit

theorem bnd_full {a : Rc} (he : emp a = false) : bnd a = oft (max a.x (-16777216)) (max a.y (-16777216)) (ed a.x a.w) (ed a.y a.h) := by
  rw [bnd, cut_full he (by decide)]
  have h1 : en fld.x fld.w = 16777216 := by decide
  have h2 : en fld.y fld.h = 16777216 := by decide
  have h3 : ∀ p s : Int, min (en p s) 16777216 = ed p s := fun p s => by
    unfold en ed
    split <;> split <;> omega
  rw [h1, h2, h3, h3]
  rfl

theorem bnd_emp {a : Rc} (he : emp a = true) : bnd a = rz := cut_emp1 he _

theorem chk_dck {a : Rc} (ok : a.Ok) : chk a = dck a := by
  apply Bool.eq_iff_iff.2
  rw [dck_iff, chk, Bool.and_eq_true, Bool.not_eq_true', rceq_iff]
  obtain ⟨⟨o1, o2⟩, ⟨o3, o4⟩, ⟨o5, o6⟩, o7, o8⟩ := ok
  constructor
  · rintro ⟨he, hq⟩
    obtain ⟨z1, z2⟩ := sizes he
    rw [bnd_full he] at hq
    by_cases h1 : ed a.x a.w ≤ max a.x (-16777216)
    · rw [oft_left h1] at hq
      rw [← hq] at z1
      exact absurd z1 (by decide)
    · by_cases h2 : ed a.y a.h ≤ max a.y (-16777216)
      · rw [oft_top h2] at hq
        rw [← hq] at z1
        exact absurd z1 (by decide)
      · rw [oft_full h1 h2] at hq
        have e1 := congrArg Rc.x hq
        have e2 := congrArg Rc.y hq
        have e3 := congrArg Rc.w hq
        have e4 := congrArg Rc.h hq
        simp only [ed] at e1 e2 e3 e4
        refine ⟨z1, z2, by omega, by omega, ?_, ?_⟩
        · split at e3 <;> omega
        · split at e4 <;> omega
  · intro k
    refine ⟨k.emp, ?_⟩
    rw [bnd_full k.emp]
    obtain ⟨k1, k2, k3, k4, k5, k6⟩ := k
    have e1 : ed a.x a.w = a.x + a.w := by rw [ed, if_pos k5]
    have e2 : ed a.y a.h = a.y + a.h := by rw [ed, if_pos k6]
    rw [e1, e2, oft_full (by omega) (by omega)]
    have e3 : max a.x (-16777216) = a.x := by omega
    have e4 : max a.y (-16777216) = a.y := by omega
    rw [e3, e4]
    have e5 : a.x + a.w - a.x = a.w := by omega
    have e6 : a.y + a.h - a.y = a.h := by omega
    rw [e5, e6]



end Go.Proofs.Ytgogpckjlfgdcab
