/- Whether a buffer has room: the document's condition as whole numbers, the program's Room, the document's Room; awake. -/
import Derived.Test.YtnfenfleahennaaDoorLibE
import Derived.Test.YtnfenfleahennaaDoorLibK
import Derived.Test.YtnfenfleahennaaDoorLibP
import Derived.Test.YtnfenfleahennaaDoorKindA
namespace Go.Proofs.YtnfenfleahennaaDoor
open Go Go.RowKit

/-- Room's answer: 7 is ErrFormat, 8 ErrStride. -/
def rmE (size off w h st fm : Int) : Nat := if fm ≠ 0 ∧ fm ≠ 1 then 7 else if w < 1 ∨ h < 1 ∨ off < 0 ∨ st < 4 * w ∨ size < off + st * h then 8 else 0

theorem tdiv4 (st w : Int) (hw : 1 ≤ w) : st.tdiv 4 < w ↔ st < 4 * w := by
  by_cases h : 0 ≤ st
  · rw [Int.tdiv_eq_ediv_of_nonneg h]
    omega
  · have h1 : st.tdiv 4 = -((-st).tdiv 4) := by rw [Int.neg_tdiv]; omega
    rw [h1, Int.tdiv_eq_ediv_of_nonneg (by omega)]
    omega
theorem tdivh {n h st : Int} (hn : 0 ≤ n) (hh : 1 ≤ h) : n.tdiv h < st ↔ n < st * h := by
  rw [Int.tdiv_eq_ediv_of_nonneg hn]
  exact Int.ediv_lt_iff_lt_mul (by omega)
theorem tdiv_in {n h : Int} (hn : 0 ≤ n) (hn2 : n ≤ 9223372036854775807) (hh : 1 ≤ h) : -9223372036854775808 ≤ n.tdiv h ∧ n.tdiv h ≤ 9223372036854775807 := by
  rw [Int.tdiv_eq_ediv_of_nonneg hn]
  have h1 := Int.ediv_nonneg hn (show 0 ≤ h by omega)
  have h2 := Int.ediv_le_self h hn
  omega
theorem tdiv4_in (st : Int) (h : -9223372036854775808 ≤ st ∧ st ≤ 9223372036854775807) : -9223372036854775808 ≤ st.tdiv 4 ∧ st.tdiv 4 ≤ 9223372036854775807 := by
  by_cases h0 : 0 ≤ st
  · exact tdiv_in h0 h.2 (by decide)
  · have h1 : st.tdiv 4 = -((-st).tdiv 4) := by rw [Int.neg_tdiv]; omega
    rw [h1, Int.tdiv_eq_ediv_of_nonneg (by omega)]
    omega
theorem mul_pos' {a b : Int} (ha : 0 < a) (hb : 0 < b) : 0 < a * b := Int.mul_pos ha hb

theorem Errs.at_ {w : World} {es : List Addr} (h : Errs w gerrs es) (i g : Nat) (hg : gerrs[i]? = some g) : w.cell? ⟨g, 0, none⟩ = some (erv es (i + 1)) := by
  have hl : i < es.length := by
    rw [h.len]
    exact (List.getElem?_eq_some_iff.1 hg).1
  have := (h.each i g _ hg (List.getElem?_eq_getElem hl)).1
  rw [this, erv, List.getD, List.getElem?_eq_getElem hl]
  rfl

/-- A number of the machine. -/
abbrev I64 (x : Int) : Prop := -9223372036854775808 ≤ x ∧ x ≤ 9223372036854775807

theorem wf64 {x : Int} (h : (Lit.int .i64 x).wf = true) : I64 x := by simpa [Lit.wf, IntKind.min, IntKind.max, IntKind.signed, IntKind.bits] using h
theorem rmE_le (size off wd h st fm : Int) : rmE size off wd h st fm ≤ 16 := by
  unfold rmE
  repeat' split
  all_goals omega

set_option maxRecDepth 100000 in
theorem room_any (es : List Addr) (size off wd h st fm : Int) (w : World) (hE : Errs w gerrs es) (hz : I64 size) (ho : I64 off) (_hw : I64 wd) (hh : I64 h) (hs : I64 st) :
    Calls Tryd.prog 33 #[.int .i64 size, .int .i64 off, .int .i64 wd, .int .i64 h, .int .i64 st, .int .i64 fm] w fun e w' => e = .returned (erv es (rmE size off wd h st fm)) ∧ w' = w := by
  have c7 := hE.at_ 6 _ rfl
  have c8 := hE.at_ 7 _ rfl
  have l7 := World.block_lt_of_cell? w _ c7
  have l8 := World.block_lt_of_cell? w _ c8
  clear hE
  by_cases hf : fm ≠ 0 ∧ fm ≠ 1
  · have HR : Hid (rmE size off wd h st fm = 7) := by rw [Hid, rmE, if_pos hf]
    have e1 : (fm != 0) = true := by simpa using hf.1
    have e2 : (fm != 1) = true := by simpa using hf.2
    clear hf
    go_enter Tryd.func33, Tryd.ntmps33
    go_wp2
    go_ret
    rw [HR.out]
    exact ⟨rfl, rfl⟩
  · have HR : Hid (rmE size off wd h st fm = if wd < 1 ∨ h < 1 ∨ off < 0 ∨ st < 4 * wd ∨ size < off + st * h then 8 else 0) := by rw [Hid, rmE, if_neg hf]
    have h4 := tdiv4_in st hs
    have HF : Hid (¬ (fm ≠ 0 ∧ fm ≠ 1)) := hf
    generalize rmE size off wd h st fm = r at *
    clear hf
    have key : ∀ (_ : Unit), Hid (r = if wd < 1 ∨ h < 1 ∨ off < 0 ∨ st < 4 * wd ∨ size < off + st * h then 8 else 0) → (fm != 0) = true ∧ (fm != 1) = false ∨ (fm != 0) = false → Calls Tryd.prog 33 #[.int .i64 size, .int .i64 off, .int .i64 wd, .int .i64 h, .int .i64 st, .int .i64 fm] w fun e w' => e = .returned (erv es r) ∧ w' = w := by
      intro _ HR hf
      by_cases h1 : wd < 1
      · have e3 : decide (wd < 1) = true := decide_eq_true h1
        rw [if_pos (.inl h1)] at HR
        rcases hf with ⟨e1, e2⟩ | e1 <;>
        · go_enter Tryd.func33, Tryd.ntmps33
          go_wp2
          go_ret
          rw [HR.out]
          exact ⟨rfl, rfl⟩
      · have e3 : decide (wd < 1) = false := decide_eq_false h1
        by_cases h2 : h < 1
        · have e4 : decide (h < 1) = true := decide_eq_true h2
          rw [if_pos (.inr (.inl h2))] at HR
          rcases hf with ⟨e1, e2⟩ | e1 <;>
          · go_enter Tryd.func33, Tryd.ntmps33
            go_wp2
            go_ret
            rw [HR.out]
            exact ⟨rfl, rfl⟩
        · have e4 : decide (h < 1) = false := decide_eq_false h2
          by_cases h3 : off < 0
          · have e5 : decide (off < 0) = true := decide_eq_true h3
            rw [if_pos (.inr (.inr (.inl h3)))] at HR
            rcases hf with ⟨e1, e2⟩ | e1 <;>
            · go_enter Tryd.func33, Tryd.ntmps33
              go_wp2
              go_ret
              rw [HR.out]
              exact ⟨rfl, rfl⟩
          · have e5 : decide (off < 0) = false := decide_eq_false h3
            by_cases h4 : st < 4 * wd
            · have e6 : decide (st.tdiv 4 < wd) = true := decide_eq_true ((tdiv4 st wd (by omega)).2 h4)
              rw [if_pos (.inr (.inr (.inr (.inl h4))))] at HR
              rcases hf with ⟨e1, e2⟩ | e1 <;>
              · go_enter Tryd.func33, Tryd.ntmps33
                go_wp2
                go_ret
                rw [HR.out]
                exact ⟨rfl, rfl⟩
            · have e6 : decide (st.tdiv 4 < wd) = false := decide_eq_false (fun q => h4 ((tdiv4 st wd (by omega)).1 q))
              have hp := mul_pos' (a := st) (b := h) (by omega) (by omega)
              by_cases h5 : size < off
              · have e7 : decide (size < off) = true := decide_eq_true h5
                rw [if_pos (.inr (.inr (.inr (.inr (by omega)))))] at HR
                clear hp
                rcases hf with ⟨e1, e2⟩ | e1 <;>
                · go_enter Tryd.func33, Tryd.ntmps33
                  go_wp2
                  go_ret
                  rw [HR.out]
                  exact ⟨rfl, rfl⟩
              · have e7 : decide (size < off) = false := decide_eq_false h5
                have hd := tdiv_in (n := size - off) (h := h) (by omega) (by omega) (by omega)
                have hq := tdivh (n := size - off) (h := h) (st := st) (by omega) (by omega)
                have hn0 : ¬ h = 0 := by omega
                by_cases h6 : size < off + st * h
                · have e8 : decide ((size - off).tdiv h < st) = true := decide_eq_true (hq.2 (by omega))
                  rw [if_pos (.inr (.inr (.inr (.inr h6))))] at HR
                  clear hp hq h6
                  rcases hf with ⟨e1, e2⟩ | e1 <;>
                  · go_enter Tryd.func33, Tryd.ntmps33
                    go_wp2
                    go_ret
                    rw [HR.out]
                    exact ⟨rfl, rfl⟩
                · have e8 : decide ((size - off).tdiv h < st) = false := decide_eq_false (fun q => h6 (by have := hq.1 q; omega))
                  rw [if_neg (by omega)] at HR
                  clear hp hq h6
                  rcases hf with ⟨e1, e2⟩ | e1 <;>
                  · go_enter Tryd.func33, Tryd.ntmps33
                    go_wp2
                    go_ret
                    rw [HR.out]
                    exact ⟨rfl, rfl⟩
    refine key () HR ?_
    have := HF.out
    by_cases h0 : fm = 0
    · exact .inr (by simp [h0])
    · have h1 : fm = 1 := by omega
      exact .inl ⟨by simp [h1], by simp [h1]⟩

set_option maxRecDepth 100000 in
theorem pawake_any (w : World) (es : List Addr) (hE : Errs w gerrs es) : Calls Tryd.prog 32 #[] w fun e w' => e = .returned (.bool true) ∧ Below w.heap.size w w' := by
  have R1 := hid (room_any es 100 0 5 5 20 0 w hE (by decide) (by decide) (by decide) (by decide) (by decide))
  have R2 := hid (room_any es 99 0 5 5 20 0 w hE (by decide) (by decide) (by decide) (by decide) (by decide))
  have R3 := hid (room_any es 100 0 1 1 4 2 w hE (by decide) (by decide) (by decide) (by decide) (by decide))
  have HK := hid (kind_erv w es hE 7 (by decide))
  rw [show rmE 100 0 5 5 20 0 = 0 by decide] at R1
  rw [show rmE 99 0 5 5 20 0 = 8 by decide] at R2
  rw [show rmE 100 0 1 1 4 2 = 7 by decide] at R3
  obtain ⟨x8, hx8⟩ : ∃ z, erv es 8 = .iface 128 (.pointer (some z)) := ⟨_, rfl⟩
  obtain ⟨x7, hx7⟩ : ∃ z, erv es 7 = .iface 128 (.pointer (some z)) := ⟨_, rfl⟩
  rw [hx8] at R2
  rw [hx7] at R3 HK
  rw [show erv es 0 = .nilIface from rfl] at R1
  clear hE hx7 hx8
  go_enter Tryd.func32, Tryd.ntmps32
  go_wp2_with fail
  refine R1.out.mono ?_
  rintro e w1 ⟨rfl, rfl⟩
  go_wp2_with fail
  refine R2.out.mono ?_
  rintro e w1 ⟨rfl, rfl⟩
  go_wp2_with fail
  refine R3.out.mono ?_
  rintro e w1 ⟨rfl, rfl⟩
  go_wp2_with fail
  refine HK.out.mono ?_
  rintro e w2 ⟨rfl, hb⟩
  go_wp2
  go_ret
  exact ⟨rfl, hb⟩
end Go.Proofs.YtnfenfleahennaaDoor
