/- The document's Room. -/
import Derived.Test.YtnfenfleahennaaDoorPolA
namespace Go.Proofs.YtnfenfleahennaaDoor
open Go Go.RowKit

set_option maxRecDepth 100000 in
theorem big_any (size off h st : Int) (w : World) (hz : I64 size) (ho : 0 ≤ off) (h5 : off ≤ size) (hs : 1 ≤ st) :
    Calls Tryd.prog 43 #[.int .i64 size, .int .i64 off, .int .i64 h, .int .i64 st] w fun e w' => e = .returned (.int .i64 (if size < off + st * h then 8 else 0 : Nat)) ∧ w' = w := by
  have hd := tdiv_in (n := size - off) (h := st) (by omega) (by omega) (by omega)
  have hq := tdivh (n := size - off) (h := st) (st := h) (by omega) (by omega)
  have hn0 : ¬ st = 0 := by omega
  rw [Int.mul_comm h st] at hq
  by_cases h6 : size < off + st * h
  · have e8 : decide ((size - off).tdiv st < h) = true := decide_eq_true (hq.2 (by omega))
    rw [if_pos h6]
    clear hq h6
    go_enter Tryd.func43, Tryd.ntmps43
    go_wp2
    go_ret
    exact ⟨rfl, rfl⟩
  · have e8 : decide ((size - off).tdiv st < h) = false := decide_eq_false (fun q => h6 (by have := hq.1 q; omega))
    rw [if_neg h6]
    clear hq h6
    go_enter Tryd.func43, Tryd.ntmps43
    go_wp2
    go_ret
    exact ⟨rfl, rfl⟩

set_option maxRecDepth 100000 in
theorem rroom_any (size off wd h st fm : Int) (w : World) (hz : I64 size) (ho : I64 off) (_hw : I64 wd) (hh : I64 h) (hs : I64 st) :
    Calls Tryd.prog 34 #[.int .i64 size, .int .i64 off, .int .i64 wd, .int .i64 h, .int .i64 st, .int .i64 fm] w fun e w' => e = .returned (.int .i64 (rmE size off wd h st fm : Nat)) ∧ w' = w := by
  by_cases hf : fm ≠ 0 ∧ fm ≠ 1
  · have HR : Hid (rmE size off wd h st fm = 7) := by rw [Hid, rmE, if_pos hf]
    have e1 : (fm != 0) = true := by simpa using hf.1
    have e2 : (fm != 1) = true := by simpa using hf.2
    clear hf
    go_enter Tryd.func34, Tryd.ntmps34
    go_wp2
    go_ret
    rw [HR.out]
    exact ⟨rfl, rfl⟩
  · have HR : Hid (rmE size off wd h st fm = if wd < 1 ∨ h < 1 ∨ off < 0 ∨ st < 4 * wd ∨ size < off + st * h then 8 else 0) := by rw [Hid, rmE, if_neg hf]
    have h4 := tdiv4_in st hs
    have HF : Hid (¬ (fm ≠ 0 ∧ fm ≠ 1)) := hf
    generalize rmE size off wd h st fm = r at *
    clear hf
    have key : ∀ (_ : Unit), Hid (r = if wd < 1 ∨ h < 1 ∨ off < 0 ∨ st < 4 * wd ∨ size < off + st * h then 8 else 0) → (fm != 0) = true ∧ (fm != 1) = false ∨ (fm != 0) = false → Calls Tryd.prog 34 #[.int .i64 size, .int .i64 off, .int .i64 wd, .int .i64 h, .int .i64 st, .int .i64 fm] w fun e w' => e = .returned (.int .i64 (r : Nat)) ∧ w' = w := by
      intro _ HR hf
      by_cases h1 : wd < 1
      · have e3 : decide (wd < 1) = true := decide_eq_true h1
        rw [if_pos (.inl h1)] at HR
        rcases hf with ⟨e1, e2⟩ | e1 <;>
        · go_enter Tryd.func34, Tryd.ntmps34
          go_wp2
          go_ret
          rw [HR.out]
          exact ⟨rfl, rfl⟩
      · have e3 : decide (wd < 1) = false := decide_eq_false h1
        by_cases h2 : h < 1
        · have e4 : decide (h < 1) = true := decide_eq_true h2
          rw [if_pos (.inr (.inl h2))] at HR
          rcases hf with ⟨e1, e2⟩ | e1 <;>
          · go_enter Tryd.func34, Tryd.ntmps34
            go_wp2
            go_ret
            rw [HR.out]
            exact ⟨rfl, rfl⟩
        · have e4 : decide (h < 1) = false := decide_eq_false h2
          by_cases h3 : off < 0
          · have e5 : decide (off < 0) = true := decide_eq_true h3
            rw [if_pos (.inr (.inr (.inl h3)))] at HR
            rcases hf with ⟨e1, e2⟩ | e1 <;>
            · go_enter Tryd.func34, Tryd.ntmps34
              go_wp2
              go_ret
              rw [HR.out]
              exact ⟨rfl, rfl⟩
          · have e5 : decide (off < 0) = false := decide_eq_false h3
            by_cases h4 : st < 4 * wd
            · have e6 : decide (st.tdiv 4 < wd) = true := decide_eq_true ((tdiv4 st wd (by omega)).2 h4)
              rw [if_pos (.inr (.inr (.inr (.inl h4))))] at HR
              rcases hf with ⟨e1, e2⟩ | e1 <;>
              · go_enter Tryd.func34, Tryd.ntmps34
                go_wp2
                go_ret
                rw [HR.out]
                exact ⟨rfl, rfl⟩
            · have e6 : decide (st.tdiv 4 < wd) = false := decide_eq_false (fun q => h4 ((tdiv4 st wd (by omega)).1 q))
              have hp := mul_pos' (a := st) (b := h) (by omega) (by omega)
              have hp1 : st ≤ st * h := by have := Int.mul_le_mul_of_nonneg_left (a := 1) (b := h) (c := st) (by omega) (by omega); rwa [Int.mul_one] at this
              have hp2 : h ≤ st * h := by have := Int.mul_le_mul_of_nonneg_right (a := 1) (b := st) (c := h) (by omega) (by omega); rwa [Int.one_mul] at this
              by_cases h5 : size < off
              · have e7 : decide (size < off) = true := decide_eq_true h5
                rw [if_pos (.inr (.inr (.inr (.inr (by omega)))))] at HR
                clear hp hp1 hp2
                rcases hf with ⟨e1, e2⟩ | e1 <;>
                · go_enter Tryd.func34, Tryd.ntmps34
                  go_wp2
                  go_ret
                  rw [HR.out]
                  exact ⟨rfl, rfl⟩
              · have e7 : decide (size < off) = false := decide_eq_false h5
                by_cases h6 : size < st
                · have e8 : decide (size < st) = true := decide_eq_true h6
                  rw [if_pos (.inr (.inr (.inr (.inr (by omega)))))] at HR
                  clear hp hp1 hp2
                  rcases hf with ⟨e1, e2⟩ | e1 <;>
                  · go_enter Tryd.func34, Tryd.ntmps34
                    go_wp2
                    go_ret
                    rw [HR.out]
                    exact ⟨rfl, rfl⟩
                · have e8 : decide (size < st) = false := decide_eq_false h6
                  by_cases h7 : size < h
                  · have e9 : decide (size < h) = true := decide_eq_true h7
                    rw [if_pos (.inr (.inr (.inr (.inr (by omega)))))] at HR
                    clear hp hp1 hp2
                    rcases hf with ⟨e1, e2⟩ | e1 <;>
                    · go_enter Tryd.func34, Tryd.ntmps34
                      go_wp2
                      go_ret
                      rw [HR.out]
                      exact ⟨rfl, rfl⟩
                  · have e9 : decide (size < h) = false := decide_eq_false h7
                    have ea : decide (size < 0) = false := decide_eq_false (by omega)
                    have HR : Hid (r = if size < off + st * h then 8 else 0) := by
                      rw [Hid, HR.out]
                      by_cases hx : size < off + st * h
                      · rw [if_pos hx, if_pos (.inr (.inr (.inr (.inr hx))))]
                      · rw [if_neg hx, if_neg (by omega)]
                    by_cases h8 : 65536 < size
                    · have eb : decide (65536 < size) = true := decide_eq_true h8
                      have HB := hid (big_any size off h st w hz (by omega) (by omega) (by omega))
                      rw [← HR.out] at HB
                      clear hp hp1 hp2 HR
                      rcases hf with ⟨e1, e2⟩ | e1 <;>
                      · go_enter Tryd.func34, Tryd.ntmps34
                        go_wp2_with fail
                        refine HB.out.mono ?_
                        rintro e w1 ⟨rfl, rfl⟩
                        go_wp2
                        go_ret
                        exact ⟨rfl, rfl⟩
                    · have eb : decide (65536 < size) = false := decide_eq_false h8
                      have hm : st * h ≤ 65536 * 65536 := Int.mul_le_mul (by omega) (by omega) (by omega) (by omega)
                      by_cases h9 : size < off + st * h
                      · have ec : decide (size < off + st * h) = true := decide_eq_true h9
                        rw [if_pos h9] at HR
                        rcases hf with ⟨e1, e2⟩ | e1 <;>
                        · go_enter Tryd.func34, Tryd.ntmps34
                          go_wp2
                          go_ret
                          rw [HR.out]
                          exact ⟨rfl, rfl⟩
                      · have ec : decide (size < off + st * h) = false := decide_eq_false h9
                        rw [if_neg h9] at HR
                        rcases hf with ⟨e1, e2⟩ | e1 <;>
                        · go_enter Tryd.func34, Tryd.ntmps34
                          go_wp2
                          go_ret
                          rw [HR.out]
                          exact ⟨rfl, rfl⟩
    refine key () HR ?_
    have := HF.out
    by_cases h0 : fm = 0
    · exact .inr (by simp [h0])
    · have h1 : fm = 1 := by omega
      exact .inl ⟨by simp [h1], by simp [h1]⟩
end Go.Proofs.YtnfenfleahennaaDoor
