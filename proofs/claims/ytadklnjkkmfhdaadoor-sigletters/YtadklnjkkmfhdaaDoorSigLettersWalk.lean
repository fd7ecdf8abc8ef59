/- SigLetters' walk: the closed law returns true; nothing that was there is turned. -/
import Derived.Test.YtadklnjkkmfhdaaDoorSigE
namespace Go.Proofs.YtadklnjkkmfhdaaDoor.sigLetters
open Go Go.RowKit

theorem size_cat (s t : List UInt8) : ((⟨s.toArray⟩ : ByteArray) ++ (⟨t.toArray⟩ : ByteArray)).size = s.length + t.length := by
  rw [ByteArray.size_append]
  rfl

theorem letter_at (s t : List UInt8) (hs : ∀ c ∈ s, c ∈ seven) (ht : ∀ c ∈ t, c ∈ seven) (m : Nat) (hm : m < ((⟨s.toArray⟩ : ByteArray) ++ (⟨t.toArray⟩ : ByteArray)).size) :
    (((⟨s.toArray⟩ : ByteArray) ++ (⟨t.toArray⟩ : ByteArray))[m].toNat : Int) = 105 ∨ (((⟨s.toArray⟩ : ByteArray) ++ (⟨t.toArray⟩ : ByteArray))[m].toNat : Int) = 117 ∨ (((⟨s.toArray⟩ : ByteArray) ++ (⟨t.toArray⟩ : ByteArray))[m].toNat : Int) = 102 ∨ (((⟨s.toArray⟩ : ByteArray) ++ (⟨t.toArray⟩ : ByteArray))[m].toNat : Int) = 111 ∨ (((⟨s.toArray⟩ : ByteArray) ++ (⟨t.toArray⟩ : ByteArray))[m].toNat : Int) = 110 ∨ (((⟨s.toArray⟩ : ByteArray) ++ (⟨t.toArray⟩ : ByteArray))[m].toNat : Int) = 115 ∨ (((⟨s.toArray⟩ : ByteArray) ++ (⟨t.toArray⟩ : ByteArray))[m].toNat : Int) = 97 := by
  have hc : ((⟨s.toArray⟩ : ByteArray) ++ (⟨t.toArray⟩ : ByteArray))[m] ∈ seven := by
    have e : ((⟨s.toArray⟩ : ByteArray) ++ (⟨t.toArray⟩ : ByteArray)).data.toList = s ++ t := by simp
    have h : ((⟨s.toArray⟩ : ByteArray) ++ (⟨t.toArray⟩ : ByteArray))[m] ∈ s ++ t := by
      rw [← e, ByteArray.getElem_eq_getElem_data]
      exact Array.getElem_mem_toList ..
    rcases List.mem_append.1 h with h | h
    · exact hs _ h
    · exact ht _ h
  simp only [seven, List.mem_cons, List.not_mem_nil, or_false] at hc
  rcases hc with h | h | h | h | h | h | h <;> rw [h] <;> decide

set_option maxRecDepth 100000 in
set_option maxHeartbeats 1000000 in
theorem walk (w : World) (hL : laidMetH Tryd.prog Rows.sigLettersRow.laid w) :
    Calls Tryd.prog 6 #[] w fun e w' => e = .returned (.bool true) ∧ Below w.heap.size w w' := by
  obtain ⟨a, hm⟩ := meth_of hL
  have HM : Hid (Meth w a) := hm
  clear hm hL
  go_enter Tryd.func6, Tryd.ntmps6
  go_wp2_with fail
  go_loopw [1] (fun f wr => ∃ k : Nat, (1 ≤ k ∧ k ≤ 18) ∧ f = .int .i64 k ∧ Below w.heap.size w wr) (fun f _ => 18 - (intOf f).toNat)
  case atStart => exact ⟨1, by omega, rfl, Below.refl _ _⟩
  case round =>
    obtain ⟨k, hk, rfl, hbel⟩ := hrel
    have HB : Hid (Below w.heap.size w wr) := hbel
    clear hbel
    by_cases h18 : k = 18
    · subst h18
      go_wp2_with fail
      refine (awake_any _ a (HM.out.below HB.out)).mono ?_
      rintro e w1 ⟨rfl, b1⟩
      go_wp2
      go_ret
      exact ⟨rfl, HB.out.trans (b1.mono HB.out.size)⟩
    · have hlt : (k : Int) ≤ 17 := by omega
      go_wp2_with fail
      go_loopw [2] (fun o wx => ∃ j : Nat, j ≤ 8 ∧ o = .int .i64 j ∧ Below w.heap.size w wx) (fun o _ => 8 - (intOf o).toNat)
      case atStart => exact ⟨0, by omega, rfl, HB.out⟩
      case round =>
        clear HB
        obtain ⟨j, hj, rfl, hbel⟩ := hrel
        have HB : Hid (Below w.heap.size w wr) := hbel
        clear hbel
        by_cases h8 : j = 8
        · subst h8
          go_wp2
          go_round
          case rel => exact ⟨k + 1, by omega, by go_num, HB.out⟩
          case measure => simp [intOf]; omega
        · have hjlt : (j : Int) < 8 := by omega
          go_wp2_with fail
          refine (Request_any k j wr a (HM.out.below HB.out)).mono ?_
          rintro e w1 ⟨rfl, b1⟩
          have HB1 : Hid (Below w.heap.size w w1) := HB.out.trans (b1.mono HB.out.size)
          clear HB b1
          generalize errv a (rqAt k j).isSome = e1
          go_wp2_with fail
          refine (Event_any k j w1 a (HM.out.below HB1.out)).mono ?_
          rintro e w2 ⟨rfl, b2⟩
          have HB : Hid (Below w.heap.size w w2) := HB1.out.trans (b2.mono HB1.out.size)
          clear HB1 b2
          generalize errv a (evAt k j).isSome = e2
          have HS : Hid ((rqS k j).length ≤ 6 ∧ ∀ c ∈ rqS k j, c ∈ seven) := rqS_letters k j
          have HT : Hid ((evS k j).length ≤ 6 ∧ ∀ c ∈ evS k j, c ∈ seven) := evS_letters k j
          generalize rqS k j = s at *
          generalize evS k j = t at *
          go_wp2_with fail
          go_loop [7] (fun i => ∃ m : Nat, m ≤ s.length + t.length ∧ i = .int .i64 m) (fun i => s.length + t.length - (intOf i).toNat)
          case atStart => exact ⟨0, by omega, rfl⟩
          case round =>
            obtain ⟨m, hm, rfl⟩ := hrel
            have hw : wrap64 ((s.length : Int) + (t.length : Int)) = (s.length : Int) + (t.length : Int) := by
              have := HS.out.1
              have := HT.out.1
              unfold wrap64; omega
            have hsmall : ¬ 9223372036854775807 < s.length + t.length := by
              have := HS.out.1
              have := HT.out.1
              omega
            by_cases hend : m = s.length + t.length
            · have hd : decide ((m : Int) < (s.length : Int) + (t.length : Int)) = false := decide_eq_false (by omega)
              have hd2 : ¬ (m : Int) < (s.length : Int) + (t.length : Int) := by omega
              go_wp2
              go_round
              case rel => exact ⟨j + 1, by omega, by go_num, HB.out⟩
              case measure => simp [intOf]; omega
            · have hd2 : (m : Int) < (s.length : Int) + (t.length : Int) := by omega
              go_wp2
              all_goals first
                | exact ⟨⟨m + 1, by omega, by go_num⟩, by simp [intOf]; omega⟩
                | (exfalso; have := letter_at s t HS.out.2 HT.out.2 m (by rw [size_cat]; omega); omega)
                | (exfalso; rename_i hx _; have h97 := hx.2; simp only [bne_iff_ne, ne_eq] at h97; have := letter_at s t HS.out.2 HT.out.2 m (by rw [size_cat]; omega); omega)
end Go.Proofs.YtadklnjkkmfhdaaDoor.sigLetters
