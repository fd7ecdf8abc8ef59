/- ForestPlays: for every row of calls the program plays as the document's forest does; nothing that was there has turned. -/
import Derived.Test.YtdgknofpkafppaaGreatDoorB47
import Derived.Test.YtdgknofpkafppaaGreatDoorSmB
namespace Go.Proofs.YtdgknofpkafppaaGreatDoor.forestPlays
open Go Go.RowKit

set_option maxRecDepth 100000 in
set_option maxHeartbeats 4000000 in
theorem core (a : Option Addr) (n c : Nat) (w : World) (hr : RdQ w a n c) (es : List Addr) (hE : Errs w gerrs es) :
    Calls Tryz.prog 3 #[.slice a n c] w fun e w' => e = .returned (.bool true) ∧ Below w.heap.size w w' := by
  have hn63 : n ≤ 9223372036854775807 := by
    have h1 := hr.le
    have h2 := hr.max
    simp only [maxLen] at h2
    omega
  have HR := hid hr
  have HE := hid hE
  have CN := hid (pq_new w w (Below.refl _ _) (fe_of hE) (ng_of hE))
  have AW : Hid (∀ W, RowKit.Below w.heap.size w W → Calls Tryz.prog 6 #[] W fun e w' => e = .returned (.bool true) ∧ RowKit.Below W.heap.size W w') := fun W hW => fawake_any W (fe_of (HE.out.below hW)) (Nat.le_trans (ng_of HE.out) hW.size)
  clear hr hE
  go_enter Tryz.func3, Tryz.ntmps3
  go_wp2_with fail
  refine CN.out.mono ?_
  rintro e w1 ⟨p, X, rfl, hp1, -, -⟩
  have HP5 : Hid (B2q es w p w1.heap.size 0 [] (w1.alloc (.cells #[.slice none 0 0] 28))) :=
    ⟨⟨_, sbs_new (pq_ft _ _ _ _ _) hp1 ((Below.refl _ _).alloc (Nat.le_refl _) _) (dq_new w w1 hp1.1) (fun b hb => by
      obtain rfl := List.mem_singleton.1 hb
      exact Nat.le_refl _)⟩, HE.out⟩
  clear hp1 CN
  go_wp2
  generalize w1.alloc (.cells #[.slice none 0 0] 28) = w5 at *
  generalize w1.heap.size = q at *
  go_loopw [5] (fun v wr => ∃ (j : Nat) (F : Fo), v = .int .i64 (j : Int) ∧ j ≤ n ∧ j ≤ 60 ∧ B2q es w p q (2 * j) F wr) (fun v _ => 61 - (numOf v).toNat)
  case atStart => exact ⟨0, [], rfl, by omega, by omega, HP5.out⟩
  case round =>
    obtain ⟨j, F, rfl, hj, hj60, hp⟩ := hrel
    clear HP5
    have hbw := hp.bel
    by_cases hgo : j < n ∧ j < 60
    · obtain ⟨hgo1, hgo2⟩ := hgo
      have e1 : decide ((j : Int) < (n : Int)) = true := decide_eq_true (by omega)
      have e2 : decide ((j : Int) < 60) = true := decide_eq_true (by omega)
      have e3 : (j : Int) < (n : Int) := by omega
      obtain ⟨b, off, o, rfl, hlt, hc, ok⟩ := HR.out.each j hgo1
      have cc : ∀ i, i < 9 → wr.cell? ⟨b, off + j * 9 + i, none⟩ = (oqc o)[i]? := fun i hi => by rw [hbw.cell hlt]; exact hc i hi
      have hlr : b < wr.heap.size := Nat.lt_of_lt_of_le hlt hbw.size
      have t0 : wr.cell? ⟨b, off + j * 9, none⟩ = some (.int .i64 o.k) := cc 0 (by omega)
      have t1 : wr.cell? ⟨b, off + j * 9 + 1, none⟩ = some (.int .i64 o.id) := cc 1 (by omega)
      have t2 : wr.cell? ⟨b, off + j * 9 + 2, none⟩ = some (.int .i64 o.a) := cc 2 (by omega)
      have t3 : wr.cell? ⟨b, off + j * 9 + 3, none⟩ = some (.int .i64 o.b) := cc 3 (by omega)
      have t4 : wr.cell? ⟨b, off + j * 9 + 4, none⟩ = some (.int .i64 o.x) := cc 4 (by omega)
      have t5 : wr.cell? ⟨b, off + j * 9 + 5, none⟩ = some (.int .i64 o.y) := cc 5 (by omega)
      have t6 : wr.cell? ⟨b, off + j * 9 + 6, none⟩ = some (.int .i64 o.w) := cc 6 (by omega)
      have t7 : wr.cell? ⟨b, off + j * 9 + 7, none⟩ = some (.int .i64 o.h) := cc 7 (by omega)
      have t8 : wr.cell? ⟨b, off + j * 9 + 8, none⟩ = some (.slice o.l.a o.l.n o.l.c) := cc 8 (by omega)
      by_cases h20 : o.l.n ≤ 20
      · have e4 : decide ((20 : Int) < (o.l.n : Int)) = false := decide_eq_false (by omega)
        have CS := hid (step_any hp (by omega) o ok h20)
        clear hp cc hc ok hlt hbw h20 AW
        go_wp2_with fail
        refine CS.out.mono ?_
        rintro e W2 ⟨rfl, F2, hF2⟩
        have HF := hid hF2
        clear hF2 CS t0 t1 t2 t3 t4 t5 t6 t7 t8
        go_wp2
        go_roundw
        case rel => exact ⟨j + 1, F2, by go_num, by omega, by omega, HF.out.mono (by omega)⟩
        case measure => simp [numOf]; omega
      · have e4 : decide ((20 : Int) < (o.l.n : Int)) = true := decide_eq_true (by omega)
        have CA := hid (AW.out wr hbw)
        have HBW := hid hbw
        clear hp cc hc ok hlt hbw h20 AW
        go_wp2_with fail
        refine CA.out.mono ?_
        rintro e W2 ⟨rfl, hb2⟩
        have HB := hid (Below.on HBW.out hb2)
        clear hb2 CA HBW
        go_wp2
        go_ret
        exact ⟨rfl, HB.out⟩
    · have HS := hid (same_any hp (by omega))
      have HBW := hid hbw
      clear hp hbw
      have gg : (j < n ∧ (j : Int) < n ∧ decide ((j : Int) < n) = true ∧ ¬ j < 60 ∧ decide ((j : Int) < 60) = false) ∨ (¬ j < n ∧ decide ((j : Int) < n) = false) := by
        rcases Nat.lt_or_ge j n with h | h
        · exact .inl ⟨h, by omega, decide_eq_true (by omega), by omega, decide_eq_false (by omega)⟩
        · exact .inr ⟨by omega, decide_eq_false (by omega)⟩
      clear hgo
      rcases gg with ⟨e1, e2, e3, e4, e5⟩ | ⟨e1, e3⟩
      all_goals
        go_wp2_with fail
        refine HS.out.mono ?_
        rintro e x3 ⟨rfl, hb⟩
        have hb3 := Below.on HBW.out hb
        have CA := hid (AW.out x3 hb3)
        have HB3 := hid hb3
        clear hb hb3 HS HBW
        go_wp2_with fail
        refine CA.out.mono ?_
        rintro e x4 ⟨rfl, hb4⟩
        have HB := hid (Below.on HB3.out hb4)
        clear hb4 CA HB3
        go_wp2
        go_ret
        exact ⟨rfl, HB.out⟩

theorem walk (a : Option Addr) (n c : Nat) (w : World) (hr : RdQ w a n c) (hL : laidMetH Tryz.prog Rows.forestPlaysRow.laid w) :
    Calls Tryz.prog 3 #[.slice a n c] w fun e w' => e = .returned (.bool true) ∧ Below w.heap.size w w' := by
  obtain ⟨es, hE⟩ := errs16 hL
  exact core a n c w hr es hE
end Go.Proofs.YtdgknofpkafppaaGreatDoor.forestPlays
