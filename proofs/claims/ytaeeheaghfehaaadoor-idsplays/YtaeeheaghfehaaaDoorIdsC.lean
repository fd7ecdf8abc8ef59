/- Place; what the law's awake answers. -/
import Derived.Test.YtaeeheaghfehaaaDoorIdsB
import Derived.BigQuiet
namespace Go.Proofs.YtaeeheaghfehaaaDoor
open Go Go.RowKit

/-- A number as a place. -/
def plc (v : Int) (n : Nat) : Nat := (v % n).toNat

theorem plc_lt (v : Int) (n : Nat) (h : 0 < n) : plc v n < n := by
  have h1 := Int.emod_nonneg v (b := (n : Int)) (by omega)
  have h2 := Int.emod_lt_of_pos v (b := (n : Int)) (by omega)
  unfold plc
  omega

theorem ret_int {k : IntKind} {a b : Int} (h : a = b) : Ending.returned (.int k a) = .returned (.int k b) := by rw [h]

theorem place_any (v : Int) (n : Nat) (_hv : -9223372036854775808 ≤ v ∧ v ≤ 9223372036854775807) (hn : 0 < n) (hn2 : n ≤ 4294967296) (w : World) :
    Calls Tryd.prog 8 #[.int .i64 v, .int .i64 n] w fun e w' => e = .returned (.int .i64 (plc v n : Nat)) ∧ w' = w := by
  have h0 : ¬ ((n : Int) = 0) := by omega
  go_enter Tryd.func8, Tryd.ntmps8
  have hb := Int.emod_nonneg v (b := (n : Int)) (by omega)
  have hb2 := Int.emod_lt_of_pos v (b := (n : Int)) (by omega)
  have HP : Hid (((plc v n : Nat) : Int) = v % n) := by simp only [Hid]; unfold plc; omega
  have HT : Hid (v.tmod n = if 0 ≤ v ∨ (n : Int) ∣ v then v % n else v % n - n) := by
    simp only [Hid]
    rw [Int.tmod_eq_emod]
    split <;> simp
  have ht : -9223372036854775808 ≤ v.tmod n + n ∧ v.tmod n + n ≤ 9223372036854775807 := by rw [HT.out]; split <;> omega
  clear hb hb2
  go_wp2
  all_goals
    go_ret
    refine ⟨ret_int ?_, rfl⟩
    have hb := Int.emod_nonneg v (b := (n : Int)) (by omega)
    have hb2 := Int.emod_lt_of_pos v (b := (n : Int)) (by omega)
    have h1 := HT.out
    rw [HP.out]
    split at h1 <;> omega

theorem s0_2 : (s0 2).1 = 0 := by decide
theorem s0_1 : (s0 1).1 = 1 := by decide

set_option maxRecDepth 100000 in
theorem awake6_any (w : World) (es : List Addr) (hE : E2 w es) : Calls Tryd.prog 23 #[] w fun e w' => e = .returned (.bool true) ∧ Below w.heap.size w w' := by
  have HN := hid (new_any w)
  obtain ⟨x, hx⟩ : ∃ x, erv es 5 = .iface 105 (.pointer (some x)) := ⟨_, rfl⟩
  have HE := hid hE
  clear hE
  go_enter Tryd.func23, Tryd.ntmps23
  go_wp2_with fail
  refine HN.out.mono ?_
  rintro e w1 ⟨rfl, hb1, hT1⟩
  have hT1 := hT1 w.heap.size (Nat.le_refl _)
  have HT1 := hid hT1
  have HB1 := hid hb1
  have HA := hid (add_any _ w1 es (HE.out.below hb1) _ _ _ hT1 2 8 1 (by decide))
  clear HN hb1 hT1
  go_wp2_with fail
  refine HA.out.mono ?_
  rintro e w2 ⟨rfl, hT2, hk2⟩
  have h0 : addE s0 2 8 1 = 0 := by decide
  rw [addS, h0, if_pos rfl] at hT2
  rw [h0, show erv es 0 = Value.nilIface from rfl]
  have hb2 : Below w.heap.size w w2 := HB1.out.trans (hk2.below HB1.out.size (fun k hk => by simp only [List.mem_cons, List.not_mem_nil, or_false] at hk; omega))
  have HT2 := hid hT2
  have HB2 := hid hb2
  have HW := hid (want_any _ w2 es (HE.out.below hb2) _ _ _ hT2 2 9 (by decide))
  rw [show wantE (upd s0 2 (8, 1)) 2 9 = 5 by decide, hx] at HW
  clear HA hT2 hk2 h0 hb2 HT1 HB1
  go_wp2_with fail
  refine HW.out.mono ?_
  rintro e w3 ⟨rfl, hb3⟩
  have HB3 := hid (Below.on HB2.out hb3)
  have HT3 := hid (HT2.out.on hb3)
  have HV := hid (want_any _ w3 es (HE.out.below HB3.out) _ _ _ HT3.out 2 8 (by decide))
  rw [show wantE (upd s0 2 (8, 1)) 2 8 = 0 by decide, show erv es 0 = Value.nilIface from rfl] at HV
  clear HW hb3 HB2 HT2
  go_wp2_with fail
  refine HV.out.mono ?_
  rintro e w4 ⟨rfl, hb4⟩
  have HB4 := hid (Below.on HB3.out hb4)
  have HF := hid (face_any _ w4 _ _ _ (HT3.out.on hb4) 1 (by decide))
  rw [show (upd s0 2 (8, 1) 1).1 = 1 by decide] at HF
  clear HV hb4 HB3 HT3
  go_wp2_with fail
  refine HF.out.mono ?_
  rintro e w5 ⟨rfl, rfl⟩
  go_wp2
  go_ret
  exact ⟨rfl, HB4.out⟩
end Go.Proofs.YtaeeheaghfehaaaDoor
