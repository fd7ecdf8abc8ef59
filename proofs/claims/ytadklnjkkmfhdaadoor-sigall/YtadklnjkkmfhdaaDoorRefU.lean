/- The document's own Name and Face (tableauref03). -/
import Derived.Test.YtadklnjkkmfhdaaDoorRefT
namespace Go.Proofs.YtadklnjkkmfhdaaDoor
open Go Go.RowKit

/-- The seventeen names. -/
def nm17 : List (List UInt8) := nmT.drop 1

theorem name_ne (j : Nat) (h1 : 1 ≤ j) (h2 : j < 18) : ¬ (⟨(nmT.getD 0 []).toArray⟩ : ByteArray) = ⟨(nmT.getD j []).toArray⟩ := by
  have h : ∀ k < 17, ¬ nmT.getD 0 [] = nmT.getD (k + 1) [] := by decide
  obtain ⟨k, rfl⟩ : ∃ k, j = k + 1 := ⟨j - 1, by omega⟩
  intro e
  have e2 : (nmT.getD 0 []).toArray = (nmT.getD (k + 1) []).toArray := congrArg ByteArray.data e
  exact h k (by omega) (congrArg Array.toList e2)

set_option maxRecDepth 100000 in
set_option maxHeartbeats 400000 in
theorem RefName_any (f : Int) (w : World) :
    Calls Tryd.prog 16 #[.int .i64 f] w fun e w' => e = .returned (.string ⟨(nmS f).toArray⟩) ∧ Below w.heap.size w w' := by
  go_enter Tryd.func16, Tryd.ntmps16
  go_upto_region 1 with fail
  refine wp_region_lit ?_
  refine wpList_litvar 51 _ 4 3 ⟨rfl, rfl, rfl⟩ ⟨rfl, rfl, rfl⟩ ⟨rfl, rfl, rfl⟩ (strs nm17).toArray (by kernel_rfl) (.agg #[.string ⟨#[]⟩, .string ⟨#[]⟩, .string ⟨#[]⟩, .string ⟨#[]⟩, .string ⟨#[]⟩, .string ⟨#[]⟩, .string ⟨#[]⟩, .string ⟨#[]⟩, .string ⟨#[]⟩, .string ⟨#[]⟩, .string ⟨#[]⟩, .string ⟨#[]⟩, .string ⟨#[]⟩, .string ⟨#[]⟩, .string ⟨#[]⟩, .string ⟨#[]⟩, .string ⟨#[]⟩]) 17 (by kernel_rfl) rfl rfl (by kernel_rfl) w.heap.size rfl
    ⟨#[.int .i64 f, undef, .string ⟨#[]⟩, .pointer (some ⟨w.heap.size, 0, none⟩), .agg (strs nm17).toArray, undef, undef, undef, undef, undef, undef, undef, undef, undef, undef], []⟩ (by kernel_rfl) (by kernel_rfl) (by kernel_rfl) ?_
  have HL : Hid (∀ k : Nat, k < 17 → (w.alloc (.cells (strs nm17).toArray 51)).cell? ⟨w.heap.size, k, none⟩ = some (.string ⟨(nmT.getD (k + 1) []).toArray⟩)) := by
    intro k hk
    refine cell_of (heap_alloc_last w _) ?_
    rw [strs, List.getElem?_map, nm17, List.getElem?_drop, List.getD, Nat.add_comm 1 k, List.getElem?_eq_getElem (show k + 1 < nmT.length from by show k + 1 < 18; omega)]
    rfl
  have HB : Hid (Below w.heap.size w (w.alloc (.cells (strs nm17).toArray 51))) := below1 _ _
  have HZ : Hid ((w.alloc (.cells (strs nm17).toArray 51)).heap[w.heap.size]? = some (.cells (strs nm17).toArray 51)) := heap_alloc_last w _
  generalize w.alloc (.cells (strs nm17).toArray 51) = W at *
  generalize (strs nm17).toArray = cs at *
  by_cases h1 : f < 1
  · have h1' : decide (f < 1) = true := decide_eq_true h1
    have e : nmS f = [] := by
      rw [nmS]
      split
      · rw [show f.toNat = 0 by omega]
        rfl
      · rfl
    have HE : Hid (nmS f = []) := e
    clear e
    go_wp2
    go_ret
    exact ⟨by rw [HE.out]; rfl, HB.out⟩
  · by_cases h2 : 17 < f
    · have h1' : decide (f < 1) = false := decide_eq_false h1
      have h2' : decide (17 < f) = true := decide_eq_true h2
      have e : nmS f = [] := if_neg (by omega)
      have HE : Hid (nmS f = []) := e
      clear e
      go_wp2
      go_ret
      exact ⟨by rw [HE.out]; rfl, HB.out⟩
    · obtain ⟨k, rfl⟩ : ∃ k : Nat, f = (k : Int) + 1 := ⟨(f - 1).toNat, by omega⟩
      have e : nmS ((k : Int) + 1) = nmT.getD (k + 1) [] := by
        rw [nmS, if_pos (by omega)]
        congr 1
      have hk : (k : Int) < 17 := by omega
      have hc := HL.out k (by omega)
      have h1' : decide ((k : Int) + 1 < 1) = false := decide_eq_false h1
      have h2' : decide (17 < (k : Int) + 1) = false := decide_eq_false h2
      obtain ⟨y, hy⟩ : ∃ y : ByteArray, (⟨(nmT.getD (k + 1) []).toArray⟩ : ByteArray) = y := ⟨_, rfl⟩
      rw [hy] at hc
      have HE : Hid (y = ⟨(nmS ((k : Int) + 1)).toArray⟩) := by rw [e]; exact hy.symm
      clear e hy HL HZ
      go_wp2
      go_ret
      exact ⟨by rw [← HE.out]; rfl, HB.out⟩

set_option maxRecDepth 100000 in
theorem RefFace_any (s : ByteArray) (w : World) :
    Calls Tryd.prog 18 #[.string s] w fun e w' => e = .returned (.int .i64 (faceOf s : Nat)) ∧ Below w.heap.size w w' := by
  go_enter Tryd.func18, Tryd.ntmps18
  go_wp2
  go_loopw [3] (fun i wr => ∃ j : Nat, (1 ≤ j ∧ j ≤ 18 ∧ Hid (∀ m, 1 ≤ m → m < j → ¬ nameAt s m)) ∧ i = .int .i64 j ∧ Below w.heap.size w wr) (fun i _ => 18 - (intOf i).toNat)
  case atStart => exact ⟨1, ⟨by omega, by omega, fun m h1 h2 => by omega⟩, rfl, Below.refl _ _⟩
  case round =>
    obtain ⟨j, ⟨hj1, hj, HN⟩, rfl, hbel⟩ := hrel
    have HB : Hid (Below w.heap.size w wr) := hbel
    clear hbel
    by_cases h18 : j = 18
    · subst h18
      go_wp2
      go_ret
      refine ⟨ret_i ?_, HB.out⟩
      by_cases h0 : nameAt s 0
      · rw [faceOf_at s 0 (by omega) h0 (fun m hm => absurd hm (Nat.not_lt_zero _))]
        rfl
      · rw [faceOf_none s (fun m hm => by
          rcases Nat.eq_zero_or_pos m with rfl | hp
          · exact h0
          · exact HN.out m hp hm)]
        rfl
    · have hlt : (j : Int) ≤ 17 := by omega
      have hC := RefName_any j wr
      have e : nmS (j : Int) = nmT.getD j [] := if_pos (by omega)
      rw [e] at hC
      by_cases he : nameAt s j
      · have he' : (⟨(nmT.getD j []).toArray⟩ : ByteArray) = s := he
        rw [he'] at hC
        clear he' e
        have hb : (s.toList == s.toList) = true := beq_self_eq_true _
        have HC : Hid (Calls Tryd.prog 16 #[.int .i64 j] wr fun e w' => e = .returned (.string s) ∧ Below wr.heap.size wr w') := hC
        have HE : Hid (nameAt s j) := he
        clear hC he
        go_wp2_with fail
        refine HC.out.mono ?_
        rintro e w1 ⟨rfl, b1⟩
        go_wp2
        go_ret
        refine ⟨ret_i ?_, HB.out.trans (b1.mono HB.out.size)⟩
        rw [faceOf_at s j (by omega) HE.out (fun m hm => by
          rcases Nat.eq_zero_or_pos m with rfl | hp
          · intro h0
            have h1 : (⟨(nmT.getD 0 []).toArray⟩ : ByteArray) = ⟨(nmT.getD j []).toArray⟩ := Eq.trans h0 (Eq.symm HE.out)
            exact name_ne j hj1 (by omega) h1
          · exact HN.out m hp hm)]
      · have hb : ((⟨(nmT.getD j []).toArray⟩ : ByteArray).toList == s.toList) = false := neq_toList he
        have HE : Hid (¬ nameAt s j) := he
        have HC : Hid (Calls Tryd.prog 16 #[.int .i64 j] wr fun e w' => e = .returned (.string ⟨(nmT.getD j []).toArray⟩) ∧ Below wr.heap.size wr w') := hC
        clear he hC e
        generalize (⟨(nmT.getD j []).toArray⟩ : ByteArray) = y at *
        go_wp2_with fail
        refine HC.out.mono ?_
        rintro e w1 ⟨rfl, b1⟩
        have HB1 : Hid (Below w.heap.size w w1) := HB.out.trans (b1.mono HB.out.size)
        clear HC HB b1
        go_wp2
        go_round
        case rel =>
          refine ⟨j + 1, ⟨by omega, by omega, fun m h1 hm => ?_⟩, by go_num, HB1.out⟩
          rcases Nat.lt_succ_iff_lt_or_eq.1 hm with h | rfl
          · exact HN.out m h1 h
          · exact HE.out
        case measure => simp [intOf]; omega
end Go.Proofs.YtadklnjkkmfhdaaDoor
