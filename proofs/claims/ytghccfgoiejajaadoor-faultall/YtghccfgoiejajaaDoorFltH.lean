/- fault.Kind. -/
import Derived.Test.YtghccfgoiejajaaDoorFltG
namespace Go.Proofs.YtghccfgoiejajaaDoor
open Go Go.RowKit

theorem kinds_index0 (es : List Addr) (w : World) : (Instr.index 52 (kindsAt es) (.int .i64 0)).run Tryd.prog w = .ok (erv es 0) w := by kernel_rfl
theorem kinds_index1 (es : List Addr) (w : World) : (Instr.index 52 (kindsAt es) (.int .i64 1)).run Tryd.prog w = .ok (erv es 1) w := by kernel_rfl
theorem kinds_index2 (es : List Addr) (w : World) : (Instr.index 52 (kindsAt es) (.int .i64 2)).run Tryd.prog w = .ok (erv es 2) w := by kernel_rfl
theorem kinds_index3 (es : List Addr) (w : World) : (Instr.index 52 (kindsAt es) (.int .i64 3)).run Tryd.prog w = .ok (erv es 3) w := by kernel_rfl
theorem kinds_index4 (es : List Addr) (w : World) : (Instr.index 52 (kindsAt es) (.int .i64 4)).run Tryd.prog w = .ok (erv es 4) w := by kernel_rfl
theorem kinds_index5 (es : List Addr) (w : World) : (Instr.index 52 (kindsAt es) (.int .i64 5)).run Tryd.prog w = .ok (erv es 5) w := by kernel_rfl
theorem kinds_index6 (es : List Addr) (w : World) : (Instr.index 52 (kindsAt es) (.int .i64 6)).run Tryd.prog w = .ok (erv es 6) w := by kernel_rfl
theorem kinds_index7 (es : List Addr) (w : World) : (Instr.index 52 (kindsAt es) (.int .i64 7)).run Tryd.prog w = .ok (erv es 7) w := by kernel_rfl
theorem kinds_index8 (es : List Addr) (w : World) : (Instr.index 52 (kindsAt es) (.int .i64 8)).run Tryd.prog w = .ok (erv es 8) w := by kernel_rfl
theorem kinds_index9 (es : List Addr) (w : World) : (Instr.index 52 (kindsAt es) (.int .i64 9)).run Tryd.prog w = .ok (erv es 9) w := by kernel_rfl
theorem kinds_index10 (es : List Addr) (w : World) : (Instr.index 52 (kindsAt es) (.int .i64 10)).run Tryd.prog w = .ok (erv es 10) w := by kernel_rfl
theorem kinds_index11 (es : List Addr) (w : World) : (Instr.index 52 (kindsAt es) (.int .i64 11)).run Tryd.prog w = .ok (erv es 11) w := by kernel_rfl
theorem kinds_index12 (es : List Addr) (w : World) : (Instr.index 52 (kindsAt es) (.int .i64 12)).run Tryd.prog w = .ok (erv es 12) w := by kernel_rfl
theorem kinds_index13 (es : List Addr) (w : World) : (Instr.index 52 (kindsAt es) (.int .i64 13)).run Tryd.prog w = .ok (erv es 13) w := by kernel_rfl
theorem kinds_index14 (es : List Addr) (w : World) : (Instr.index 52 (kindsAt es) (.int .i64 14)).run Tryd.prog w = .ok (erv es 14) w := by kernel_rfl
theorem kinds_index15 (es : List Addr) (w : World) : (Instr.index 52 (kindsAt es) (.int .i64 15)).run Tryd.prog w = .ok (erv es 15) w := by kernel_rfl
theorem kinds_index16 (es : List Addr) (w : World) : (Instr.index 52 (kindsAt es) (.int .i64 16)).run Tryd.prog w = .ok (erv es 16) w := by kernel_rfl
theorem kinds_index (es : List Addr) (j : Nat) (hj : j ≤ 16) (w : World) : (Instr.index 52 (kindsAt es) (.int .i64 j)).run Tryd.prog w = .ok (erv es j) w := by
  have h : j = 0 ∨ j = 1 ∨ j = 2 ∨ j = 3 ∨ j = 4 ∨ j = 5 ∨ j = 6 ∨ j = 7 ∨ j = 8 ∨ j = 9 ∨ j = 10 ∨ j = 11 ∨ j = 12 ∨ j = 13 ∨ j = 14 ∨ j = 15 ∨ j = 16 := by omega
  rcases h with rfl | rfl | rfl | rfl | rfl | rfl | rfl | rfl | rfl | rfl | rfl | rfl | rfl | rfl | rfl | rfl | rfl
  · exact kinds_index0 es w
  · exact kinds_index1 es w
  · exact kinds_index2 es w
  · exact kinds_index3 es w
  · exact kinds_index4 es w
  · exact kinds_index5 es w
  · exact kinds_index6 es w
  · exact kinds_index7 es w
  · exact kinds_index8 es w
  · exact kinds_index9 es w
  · exact kinds_index10 es w
  · exact kinds_index11 es w
  · exact kinds_index12 es w
  · exact kinds_index13 es w
  · exact kinds_index14 es w
  · exact kinds_index15 es w
  · exact kinds_index16 es w

set_option maxRecDepth 100000 in
theorem fkind_chain (w : World) (es : List Addr) (h : Errs w gerrs es) (L v : Value) (F : Option Nat) (k : Nat) (hc : Ch w L v F) (hk : Leaf w es L k) :
    Calls Tryd.prog 18 #[v] w fun e w' => e = .returned (.int .i64 (kindOf k : Nat)) ∧ Below w.heap.size w w' := by
  obtain ⟨t, q, rfl⟩ := hc.iface
  have HK : Hid (∀ _ : Unit, Calls Tryd.prog 24 #[] w fun e w' => e = .returned (kindsAt es) ∧ Below w.heap.size w w') := fun _ => kinds_all w es h
  have HI : Hid (∀ (j : Nat) (w' : World), 1 ≤ j → j ≤ 16 → Below w.heap.size w w' → Calls Tryd.prog 19 #[.iface t q, erv es j] w' fun e w'' => e = .returned (.bool (decide (k = j))) ∧ Below w.heap.size w w'') := fun j w' h1 h2 hb => by
    refine (fIs_kind w' es (h.below hb) L _ F k j (hc.stays hb) (hk.stays hb) h1 h2).mono ?_
    rintro e w'' ⟨h1, h2⟩
    exact ⟨h1, hb.trans (h2.mono hb.size)⟩
  have HZ : Hid (k ≤ 17) := by
    show k ≤ 17
    rcases hk with ⟨h, _⟩ | ⟨_, h, _⟩ | ⟨h, _⟩ <;> omega
  clear h hc hk
  go_enter Tryd.func18, Tryd.ntmps18
  go_wp2_with (go_at_call 24; refine (HK.out ()).mono ?_; rintro e w1 ⟨rfl, hb⟩; have HB : Hid (Below w.heap.size w w1) := hb; clear hb)
  go_loopw [8] (fun i wr => ∃ j : Nat, (j ≤ 17 ∧ (1 ≤ k → k ≤ 16 → j ≤ k)) ∧ i = .int .i64 j ∧ Below w.heap.size w wr) (fun i _ => 17 - (intOf i).toNat)
  case atStart => exact ⟨0, ⟨by omega, fun _ _ => by omega⟩, rfl, HB.out⟩
  case round =>
    obtain ⟨j, hj, rfl, hbel⟩ := hrel
    have HL : Hid (Below w.heap.size w wr) := hbel
    have HJ : Hid (j ≤ 17 ∧ (1 ≤ k → k ≤ 16 → j ≤ k)) := hj
    clear hbel hj HB
    by_cases h17 : j = 17
    · subst h17
      go_wp2
      go_ret
      refine ⟨ret_int' ?_, HL.out⟩
      have h1 := HJ.out.2
      have h2 := HZ.out
      unfold kindOf
      split <;> omega
    · have hlt : (j : Int) < 17 := by have := HJ.out.1; omega
      have hix := kinds_index es j (by omega)
      by_cases h0 : j = 0
      · have h0' : decide ((j : Int) = 0) = true := by simp; omega
        rw [show erv es j = .nilIface by rw [h0]; rfl] at hix
        clear HI HK
        have hix0 : ∀ w, (Instr.index 52 (kindsAt es) (.int .i64 0)).run Tryd.prog w = .ok .nilIface w := kinds_index0 es
        go_wp2
        go_round
        case rel => exact ⟨j + 1, ⟨by omega, fun h1 h2 => by omega⟩, by go_num, HL.out⟩
        case measure => simp [intOf]; omega
      · have hne : decide ((j : Int) = 0) = false := by simp; omega
        have h1 : 1 ≤ j := by omega
        have h2 : j ≤ 16 := by omega
        obtain ⟨x, hx⟩ : ∃ x, erv es j = eS x := by
          obtain ⟨i, rfl⟩ : ∃ i, j = i + 1 := ⟨j - 1, by omega⟩
          exact ⟨_, rfl⟩
        have HI' : Hid (Calls Tryd.prog 19 #[.iface t q, eS x] wr fun e w'' => e = .returned (.bool (decide (k = j))) ∧ Below w.heap.size w w'') := by
          show Calls _ _ _ _ _
          rw [← hx]
          exact HI.out j wr h1 h2 HL.out
        rw [hx] at hix
        clear hx
        by_cases hk : k = j
        · have hd : Hid (decide (k = j) = true) := by show decide _ = true; simp [hk]
          go_wp2_with (go_at_call 19; refine HI'.out.mono ?_; rw [hd.out]; rintro e w2 ⟨rfl, hb⟩; have HB : Hid (Below w.heap.size w w2) := hb; clear hb)
          go_ret
          exact ⟨ret_int' (by unfold kindOf; split <;> omega), HB.out⟩
        · have hd : Hid (decide (k = j) = false) := by show decide _ = false; simp [hk]
          go_wp2_with (go_at_call 19; refine HI'.out.mono ?_; rw [hd.out]; rintro e w2 ⟨rfl, hb⟩; have HB : Hid (Below w.heap.size w w2) := hb; clear hb)
          go_round
          case rel => exact ⟨j + 1, ⟨by omega, fun h1 h2 => by have := HJ.out.2 h1 h2; omega⟩, by go_num, HB.out⟩
          case measure => simp [intOf]; omega

theorem fkind_nil (w : World) : Calls Tryd.prog 18 #[.nilIface] w fun e w' => e = .returned (.int .i64 0) ∧ Below w.heap.size w w' := by
  go_enter Tryd.func18, Tryd.ntmps18
  go_wp2
  go_ret
  exact ⟨rfl, Below.refl _ _⟩
end Go.Proofs.YtghccfgoiejajaaDoor
