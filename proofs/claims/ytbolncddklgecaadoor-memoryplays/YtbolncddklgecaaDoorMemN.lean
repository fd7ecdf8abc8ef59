/- The document's memories: Word. -/
import Derived.Test.YtbolncddklgecaaDoorMemM
import Derived.Test.YtbolncddklgecaaDoorLibS
namespace Go.Proofs.YtbolncddklgecaaDoor
open Go Go.RowKit
variable {base : Nat} {w : World} {q : Nat} {s : Int → Mo} {d : Int → Do}

/-- The first t bytes from j on as a number. -/
def pw (l : List UInt8) (j : Int) : Nat → Nat
  | 0 => 0
  | t + 1 => pw l j t + bt l (j + t) * 256 ^ t
theorem pw_four (l : List UInt8) (j : Int) : pw l j 4 = wd l j := by
  simp only [pw, wd, Nat.pow_zero, Nat.mul_one, Nat.pow_one, Nat.zero_add, show (256 : Nat) ^ 2 = 65536 from rfl, show (256 : Nat) ^ 3 = 16777216 from rfl]
  rw [show j + ((0 : Nat) : Int) = j by omega]
  rfl
theorem pw_lt (l : List UInt8) (j : Int) : ∀ t, pw l j t < 256 ^ t
  | 0 => by simp [pw]
  | t + 1 => by
    have h1 := pw_lt l j t
    have h2 := bt_lt l (j + t)
    rw [pw, Nat.pow_succ]
    have h3 : bt l (j + t) * 256 ^ t ≤ 255 * 256 ^ t := Nat.mul_le_mul_right _ (by omega)
    omega
theorem bt_out (l : List UInt8) (i : Int) (h : i < 0 ∨ (l.length : Int) ≤ i) : bt l i = 0 := by
  rcases h with h | h
  · rw [bt, if_pos h]
  · exact bt_far l i h
theorem pw_out (l : List UInt8) (j : Int) (t : Nat) (h : j + t < 0 ∨ (l.length : Int) ≤ j + t) : pw l j (t + 1) = pw l j t := by
  rw [pw, bt_out l _ h, Nat.zero_mul, Nat.add_zero]
theorem pw_in (l : List UInt8) (j : Int) (t z : Nat) (h : j + t = z) : pw l j (t + 1) = pw l j t + (l.getD z 0).toNat * 256 ^ t := by
  rw [pw, h, bt, if_neg (by omega), Int.toNat_natCast]

set_option maxRecDepth 100000 in
theorem rword_none (hD : Dm base w q d) (hag : Ag s d) (k j : Int) (hq : s k = none) :
    Calls Tryd.prog 21 #[.pointer (some ⟨q, 0, none⟩), .int .i64 k, .int .i64 j] w fun e w' => e = .returned (.int .u32 0) ∧ w' = w := by
  have HI := hid (rin_any hD hag k)
  rw [hq, Option.isSome_none] at HI
  clear hD hag hq
  go_enter Tryd.func21, Tryd.ntmps21
  go_wp2
  refine wp_loop_rounds 1 ?_
  rw [rounds_succ]
  go_wp2_with fail
  refine HI.out.mono ?_
  rintro e w1 ⟨rfl, rfl⟩
  go_wp2
  go_ret
  exact ⟨rfl, rfl⟩

set_option maxRecDepth 100000 in
set_option maxHeartbeats 4000000 in
theorem rword_some (hD : Dm base w q d) (hag : Ag s d) (k j : Int) (hj : -9223372036854775808 ≤ j ∧ j ≤ 9223372036854775807) (r : Nat × List UInt8) (hq : s k = some r) :
    Calls Tryd.prog 21 #[.pointer (some ⟨q, 0, none⟩), .int .i64 k, .int .i64 j] w fun e w' => e = .returned (.int .u32 (wd r.2 j : Nat)) ∧ w' = w := by
  have HI := hid (rin_any hD hag k)
  have hk := hD.dom k (by rw [hag.isSome k, hq]; rfl)
  obtain ⟨ao, m, cm, hv, hrd, hm⟩ := hag.rd hD k
  rw [hq, show by_ (some r) = r.2 from rfl] at hrd
  rw [hq, Option.isSome_some] at HI
  have hlm := hrd.len
  have hcm := hrd.le
  obtain ⟨i, rfl⟩ : ∃ i : Nat, k = i := ⟨k.toNat, by omega⟩
  have c0 := hD.cl i (by omega)
  rw [hv] at c0
  have hlt := hD.lt
  have HR := hid hrd
  generalize r.2 = l at *
  have HP := hid (pw_four l j)
  clear hD hag hq hv hrd
  go_enter Tryd.func21, Tryd.ntmps21
  go_wp2
  go_loopw [7, 8] (fun v i wr => ∃ t : Nat, t ≤ 4 ∧ i = .int .i64 t ∧ v = .int .u32 (pw l j t : Nat) ∧ wr = w) (fun _ i _ => 4 - (numOf i).toNat)
  case atStart => exact ⟨0, by omega, rfl, rfl, rfl⟩
  case round =>
    obtain ⟨t, ht, rfl, rfl, rfl⟩ := hrel
    obtain rfl | rfl | rfl | rfl | rfl : t = 0 ∨ t = 1 ∨ t = 2 ∨ t = 3 ∨ t = 4 := by omega
    · have hlo := pw_lt l j 0
      by_cases hin : 0 ≤ j + 0 ∧ j + 0 < m
      · have e1 : decide (-0 ≤ j) = true := decide_eq_true (by omega)
        have e2 : decide (j < (m : Int) - 0) = true := decide_eq_true (by omega)
        obtain ⟨z, hz⟩ : ∃ z : Nat, j + 0 = (z : Int) := ⟨(j + 0).toNat, by omega⟩
        obtain ⟨b0, off, rfl, hb0, c1⟩ := HR.out.at_ z (by omega)
        have hn : pw l j 1 = pw l j 0 + (l.getD z 0).toNat * 1 := pw_in l j 0 z hz
        have HN := hid hn
        have hB : (l.getD z 0).toNat < 256 := UInt8.toNat_lt _
        have HLO : Hid (pw l j 0 < 1) := hlo
        generalize (l.getD z 0).toNat = B at *
        generalize pw l j 0 = V at *
        clear hn hlo
        have hV : V < 1 := HLO.out
        have hzz := hz
        go_wp2_with fail
        refine HI.out.mono ?_
        rintro e w1 ⟨rfl, rfl⟩
        go_wp2
        -- MARK0
        go_roundw
        case rel => exact ⟨1, by omega, by go_num, congrArg (Value.int .u32) (by rw [HN.out]; omega), trivial⟩
        case measure => simp [numOf]
      · have hn := pw_out l j 0 (by omega)
        have HN := hid hn
        clear hn hlo
        by_cases h1 : -0 ≤ j
        · have e1 : decide (-0 ≤ j) = true := decide_eq_true h1
          have e2 : decide (j < (m : Int) - 0) = false := decide_eq_false (by omega)
          go_wp2_with fail
          refine HI.out.mono ?_
          rintro e w1 ⟨rfl, rfl⟩
          go_wp2
          go_roundw
          case rel => exact ⟨1, by omega, by go_num, congrArg (fun x : Nat => Value.int .u32 x) HN.out.symm, trivial⟩
          case measure => simp [numOf]
        · have e1 : decide (-0 ≤ j) = false := decide_eq_false h1
          go_wp2_with fail
          refine HI.out.mono ?_
          rintro e w1 ⟨rfl, rfl⟩
          go_wp2
          go_roundw
          case rel => exact ⟨1, by omega, by go_num, congrArg (fun x : Nat => Value.int .u32 x) HN.out.symm, trivial⟩
          case measure => simp [numOf]
    · have hlo := pw_lt l j 1
      by_cases hin : 0 ≤ j + 1 ∧ j + 1 < m
      · have e1 : decide (-1 ≤ j) = true := decide_eq_true (by omega)
        have e2 : decide (j < (m : Int) - 1) = true := decide_eq_true (by omega)
        obtain ⟨z, hz⟩ : ∃ z : Nat, j + 1 = (z : Int) := ⟨(j + 1).toNat, by omega⟩
        obtain ⟨b0, off, rfl, hb0, c1⟩ := HR.out.at_ z (by omega)
        have hn : pw l j 2 = pw l j 1 + (l.getD z 0).toNat * 256 := pw_in l j 1 z hz
        have HN := hid hn
        have hB : (l.getD z 0).toNat < 256 := UInt8.toNat_lt _
        have HLO : Hid (pw l j 1 < 256) := hlo
        generalize (l.getD z 0).toNat = B at *
        generalize pw l j 1 = V at *
        clear hn hlo
        have hV : V < 256 := HLO.out
        have hzz := hz
        go_wp2_with fail
        refine HI.out.mono ?_
        rintro e w1 ⟨rfl, rfl⟩
        go_wp2
        -- MARK1
        go_roundw
        case rel => exact ⟨2, by omega, by go_num, congrArg (Value.int .u32) (by rw [HN.out]; omega), trivial⟩
        case measure => simp [numOf]
      · have hn := pw_out l j 1 (by omega)
        have HN := hid hn
        clear hn hlo
        by_cases h1 : -1 ≤ j
        · have e1 : decide (-1 ≤ j) = true := decide_eq_true h1
          have e2 : decide (j < (m : Int) - 1) = false := decide_eq_false (by omega)
          go_wp2_with fail
          refine HI.out.mono ?_
          rintro e w1 ⟨rfl, rfl⟩
          go_wp2
          go_roundw
          case rel => exact ⟨2, by omega, by go_num, congrArg (fun x : Nat => Value.int .u32 x) HN.out.symm, trivial⟩
          case measure => simp [numOf]
        · have e1 : decide (-1 ≤ j) = false := decide_eq_false h1
          go_wp2_with fail
          refine HI.out.mono ?_
          rintro e w1 ⟨rfl, rfl⟩
          go_wp2
          go_roundw
          case rel => exact ⟨2, by omega, by go_num, congrArg (fun x : Nat => Value.int .u32 x) HN.out.symm, trivial⟩
          case measure => simp [numOf]
    · have hlo := pw_lt l j 2
      by_cases hin : 0 ≤ j + 2 ∧ j + 2 < m
      · have e1 : decide (-2 ≤ j) = true := decide_eq_true (by omega)
        have e2 : decide (j < (m : Int) - 2) = true := decide_eq_true (by omega)
        obtain ⟨z, hz⟩ : ∃ z : Nat, j + 2 = (z : Int) := ⟨(j + 2).toNat, by omega⟩
        obtain ⟨b0, off, rfl, hb0, c1⟩ := HR.out.at_ z (by omega)
        have hn : pw l j 3 = pw l j 2 + (l.getD z 0).toNat * 65536 := pw_in l j 2 z hz
        have HN := hid hn
        have hB : (l.getD z 0).toNat < 256 := UInt8.toNat_lt _
        have HLO : Hid (pw l j 2 < 65536) := hlo
        generalize (l.getD z 0).toNat = B at *
        generalize pw l j 2 = V at *
        clear hn hlo
        have hV : V < 65536 := HLO.out
        have hzz := hz
        go_wp2_with fail
        refine HI.out.mono ?_
        rintro e w1 ⟨rfl, rfl⟩
        go_wp2
        -- MARK2
        go_roundw
        case rel => exact ⟨3, by omega, by go_num, congrArg (Value.int .u32) (by rw [HN.out]; omega), trivial⟩
        case measure => simp [numOf]
      · have hn := pw_out l j 2 (by omega)
        have HN := hid hn
        clear hn hlo
        by_cases h1 : -2 ≤ j
        · have e1 : decide (-2 ≤ j) = true := decide_eq_true h1
          have e2 : decide (j < (m : Int) - 2) = false := decide_eq_false (by omega)
          go_wp2_with fail
          refine HI.out.mono ?_
          rintro e w1 ⟨rfl, rfl⟩
          go_wp2
          go_roundw
          case rel => exact ⟨3, by omega, by go_num, congrArg (fun x : Nat => Value.int .u32 x) HN.out.symm, trivial⟩
          case measure => simp [numOf]
        · have e1 : decide (-2 ≤ j) = false := decide_eq_false h1
          go_wp2_with fail
          refine HI.out.mono ?_
          rintro e w1 ⟨rfl, rfl⟩
          go_wp2
          go_roundw
          case rel => exact ⟨3, by omega, by go_num, congrArg (fun x : Nat => Value.int .u32 x) HN.out.symm, trivial⟩
          case measure => simp [numOf]
    · have hlo := pw_lt l j 3
      by_cases hin : 0 ≤ j + 3 ∧ j + 3 < m
      · have e1 : decide (-3 ≤ j) = true := decide_eq_true (by omega)
        have e2 : decide (j < (m : Int) - 3) = true := decide_eq_true (by omega)
        obtain ⟨z, hz⟩ : ∃ z : Nat, j + 3 = (z : Int) := ⟨(j + 3).toNat, by omega⟩
        obtain ⟨b0, off, rfl, hb0, c1⟩ := HR.out.at_ z (by omega)
        have hn : pw l j 4 = pw l j 3 + (l.getD z 0).toNat * 16777216 := pw_in l j 3 z hz
        have HN := hid hn
        have hB : (l.getD z 0).toNat < 256 := UInt8.toNat_lt _
        have HLO : Hid (pw l j 3 < 16777216) := hlo
        generalize (l.getD z 0).toNat = B at *
        generalize pw l j 3 = V at *
        clear hn hlo
        have hV : V < 16777216 := HLO.out
        have hzz := hz
        go_wp2_with fail
        refine HI.out.mono ?_
        rintro e w1 ⟨rfl, rfl⟩
        go_wp2
        -- MARK3
        go_roundw
        case rel => exact ⟨4, by omega, by go_num, congrArg (Value.int .u32) (by rw [HN.out]; omega), trivial⟩
        case measure => simp [numOf]
      · have hn := pw_out l j 3 (by omega)
        have HN := hid hn
        clear hn hlo
        by_cases h1 : -3 ≤ j
        · have e1 : decide (-3 ≤ j) = true := decide_eq_true h1
          have e2 : decide (j < (m : Int) - 3) = false := decide_eq_false (by omega)
          go_wp2_with fail
          refine HI.out.mono ?_
          rintro e w1 ⟨rfl, rfl⟩
          go_wp2
          go_roundw
          case rel => exact ⟨4, by omega, by go_num, congrArg (fun x : Nat => Value.int .u32 x) HN.out.symm, trivial⟩
          case measure => simp [numOf]
        · have e1 : decide (-3 ≤ j) = false := decide_eq_false h1
          go_wp2_with fail
          refine HI.out.mono ?_
          rintro e w1 ⟨rfl, rfl⟩
          go_wp2
          go_roundw
          case rel => exact ⟨4, by omega, by go_num, congrArg (fun x : Nat => Value.int .u32 x) HN.out.symm, trivial⟩
          case measure => simp [numOf]
    · go_wp2
      go_ret
      rw [HP.out]
      exact ⟨rfl, rfl⟩

theorem rword_any (hD : Dm base w q d) (hag : Ag s d) (k j : Int) (hj : -9223372036854775808 ≤ j ∧ j ≤ 9223372036854775807) :
    Calls Tryd.prog 21 #[.pointer (some ⟨q, 0, none⟩), .int .i64 k, .int .i64 j] w fun e w' => e = .returned (.int .u32 (wd (by_ (s k)) j : Nat)) ∧ w' = w := by
  cases hq : s k with
  | none =>
    have e : wd (by_ none) j = 0 := by
      have : ∀ i, bt [] i = 0 := fun i => by unfold bt; split <;> rfl
      simp only [wd, by_, this]
    rw [e]
    exact rword_none hD hag k j hq
  | some r => exact rword_some hD hag k j hj r hq
end Go.Proofs.YtbolncddklgecaaDoor
