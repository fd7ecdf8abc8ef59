/- The contracts of the program's wire.such and wire.checkArg, for every argument; what they turn is their own. -/
import Derived.Test.YtoggnfadfocogaaDoorWordM
namespace Go.Proofs.YtoggnfadfocogaaDoor
open Go Go.RowKit

/-- Is an argument one of its kind? -/
def suchB (k : Nat) (n : Int) (l : List UInt8) : Bool :=
  if k = 105 ∨ k = 102 then l.isEmpty && (decide (-2147483648 ≤ n) && decide (n ≤ 2147483647))
  else if k = 110 then l.isEmpty && (decide (1 ≤ n) && decide (n ≤ 4294967295))
  else if k = 117 ∨ k = 111 then l.isEmpty && (decide (0 ≤ n) && decide (n ≤ 4294967295))
  else if k = 115 then decide (n = 0) && (decide (l.length ≤ 200) && !l.contains 0)
  else if k = 97 then decide (n = 0) && decide (l.length ≤ 200)
  else false

theorem index_none (s : List UInt8) (h : (0 : UInt8) ∉ s) : Lib.indexByte s 0 = -1 := by
  induction s with
  | nil => rfl
  | cons b s ih =>
    have hb : (b == (0 : UInt8)) = false := beq_eq_false_iff_ne.2 fun e => h (by rw [e]; exact List.mem_cons_self ..)
    rw [Lib.indexByte, hb, ih (fun hm => h (List.mem_cons_of_mem _ hm)), if_neg (by decide), if_pos (by decide)]

theorem such_num (k : Nat) (n : Int) (s : ByteArray) (w : World) (hk : k = 105 ∨ k = 102) :
    Calls Tryd.prog 45 #[.agg #[.int .u8 k, .int .i64 n, .string s]] w fun e w' => e = .returned (.bool (suchB k n s.data.toList)) ∧ Below w.heap.size w w' := by
  rcases hk with rfl | rfl
  all_goals
    go_enter Tryd.func45, Tryd.ntmps45
    go_wp2
    all_goals
      go_ret
      refine ⟨ret_bool ?_, (Below.refl _ _).alloc (Nat.le_refl _) _⟩
      rw [← data_toList]
      simp_all [suchB]
      try omega

theorem such_new (n : Int) (s : ByteArray) (w : World) :
    Calls Tryd.prog 45 #[.agg #[.int .u8 110, .int .i64 n, .string s]] w fun e w' => e = .returned (.bool (suchB 110 n s.data.toList)) ∧ Below w.heap.size w w' := by
  go_enter Tryd.func45, Tryd.ntmps45
  go_wp2
  all_goals
    go_ret
    refine ⟨ret_bool ?_, (Below.refl _ _).alloc (Nat.le_refl _) _⟩
    rw [← data_toList]
    simp_all [suchB]
    try omega

theorem such_unsigned (k : Nat) (n : Int) (s : ByteArray) (w : World) (hk : k = 117 ∨ k = 111) :
    Calls Tryd.prog 45 #[.agg #[.int .u8 k, .int .i64 n, .string s]] w fun e w' => e = .returned (.bool (suchB k n s.data.toList)) ∧ Below w.heap.size w w' := by
  rcases hk with rfl | rfl
  all_goals
    go_enter Tryd.func45, Tryd.ntmps45
    go_wp2
    all_goals
      go_ret
      refine ⟨ret_bool ?_, (Below.refl _ _).alloc (Nat.le_refl _) _⟩
      rw [← data_toList]
      simp_all [suchB]
      try omega

theorem such_text (n : Int) (s : ByteArray) (hs : s.size ≤ 1152921504606846976) (w : World) :
    Calls Tryd.prog 45 #[.agg #[.int .u8 115, .int .i64 n, .string s]] w fun e w' => e = .returned (.bool (suchB 115 n s.data.toList)) ∧ Below w.heap.size w w' := by
  have hx := ext37
  have hsz := size_toList s
  by_cases h0 : (0 : UInt8) ∈ s.data.toList
  · have hi := fun (c : Int) (u : World) => Lib.run_indexByteString (P := Tryd.prog) s c u
    have hge : 0 ≤ Lib.indexByte s.data.toList 0 := by have := (index_le _ h0 []).1; rwa [List.append_nil] at this
    have H0 : Hid ((0 : UInt8) ∈ s.data.toList) := h0
    clear h0 hsz
    go_enter Tryd.func45, Tryd.ntmps45
    go_wp2
    go_ret
    refine ⟨ret_bool ?_, (Below.refl _ _).alloc (Nat.le_refl _) _⟩
    have := H0.out
    simp [suchB, this]
  · have hi := fun (c : Int) (u : World) => Lib.run_indexByteString (P := Tryd.prog) s c u
    have hge : Lib.indexByte s.data.toList 0 = -1 := index_none _ h0
    have H0 : Hid ((0 : UInt8) ∉ s.data.toList) := h0
    have HS : Hid (s.data.toList.length = s.size) := hsz
    clear h0 hsz
    go_enter Tryd.func45, Tryd.ntmps45
    go_wp2
    all_goals
      go_ret
      refine ⟨ret_bool ?_, (Below.refl _ _).alloc (Nat.le_refl _) _⟩
      have := H0.out
      have h2 := HS.out
      simp_all [suchB]
      try omega

theorem such_list (n : Int) (s : ByteArray) (hs : s.size ≤ 1152921504606846976) (w : World) :
    Calls Tryd.prog 45 #[.agg #[.int .u8 97, .int .i64 n, .string s]] w fun e w' => e = .returned (.bool (suchB 97 n s.data.toList)) ∧ Below w.heap.size w w' := by
  have HS : Hid (s.data.toList.length = s.size) := size_toList s
  go_enter Tryd.func45, Tryd.ntmps45
  go_wp2
  all_goals
    go_ret
    refine ⟨ret_bool ?_, (Below.refl _ _).alloc (Nat.le_refl _) _⟩
    have h2 := HS.out
    simp_all [suchB]
    try omega

theorem such_none (k : Nat) (n : Int) (s : ByteArray) (w : World) (h1 : k ≠ 105) (h2 : k ≠ 102) (h3 : k ≠ 110) (h4 : k ≠ 117) (h5 : k ≠ 111) (h6 : k ≠ 115) (h7 : k ≠ 97) :
    Calls Tryd.prog 45 #[.agg #[.int .u8 k, .int .i64 n, .string s]] w fun e w' => e = .returned (.bool (suchB k n s.data.toList)) ∧ Below w.heap.size w w' := by
  have e1 : ((k : Int) == 105) = false := beq_eq_false_iff_ne.2 (by omega)
  have e2 : ((k : Int) == 102) = false := beq_eq_false_iff_ne.2 (by omega)
  have e3 : ((k : Int) == 110) = false := beq_eq_false_iff_ne.2 (by omega)
  have e4 : ((k : Int) == 117) = false := beq_eq_false_iff_ne.2 (by omega)
  have e5 : ((k : Int) == 111) = false := beq_eq_false_iff_ne.2 (by omega)
  have e6 : ((k : Int) == 115) = false := beq_eq_false_iff_ne.2 (by omega)
  have e7 : ((k : Int) == 97) = false := beq_eq_false_iff_ne.2 (by omega)
  have H : Hid (suchB k n s.data.toList = false) := by simp [Hid, suchB, h1, h2, h3, h4, h5, h6, h7]
  clear h1 h2 h3 h4 h5 h6 h7
  rw [H.out]
  go_enter Tryd.func45, Tryd.ntmps45
  go_wp2
  go_ret
  exact ⟨rfl, (Below.refl _ _).alloc (Nat.le_refl _) _⟩

theorem such_any (k : Nat) (n : Int) (s : ByteArray) (hs : s.size ≤ 1152921504606846976) (w : World) :
    Calls Tryd.prog 45 #[.agg #[.int .u8 k, .int .i64 n, .string s]] w fun e w' => e = .returned (.bool (suchB k n s.data.toList)) ∧ Below w.heap.size w w' := by
  by_cases h1 : k = 105
  · exact such_num k n s w (.inl h1)
  by_cases h2 : k = 102
  · exact such_num k n s w (.inr h2)
  by_cases h3 : k = 110
  · subst h3; exact such_new n s w
  by_cases h4 : k = 117
  · exact such_unsigned k n s w (.inl h4)
  by_cases h5 : k = 111
  · exact such_unsigned k n s w (.inr h5)
  by_cases h6 : k = 115
  · subst h6; exact such_text n s hs w
  by_cases h7 : k = 97
  · subst h7; exact such_list n s hs w
  exact such_none k n s w h1 h2 h3 h4 h5 h6 h7

/-- Is an argument such as its letter says? -/
def okArg (k : Nat) (n : Int) (l : List UInt8) (z : Nat) : Bool := decide (k = z) && suchB k n l

theorem checkArg_any (k : Nat) (n : Int) (s : ByteArray) (hs : s.size ≤ 1152921504606846976) (z : Nat) (w : World) (es : List Addr) (hA : w.cell? ⟨2, 0, none⟩ = some (erv es 1)) :
    Calls Tryd.prog 35 #[.agg #[.int .u8 k, .int .i64 n, .string s], .int .u8 z] w fun e w' => e = .returned (erv es (if okArg k n s.data.toList z then 0 else 1)) ∧ Below w.heap.size w w' := by
  have HS : Hid (∀ u, Calls Tryd.prog 45 #[.agg #[.int .u8 k, .int .i64 n, .string s]] u fun e w' => e = .returned (.bool (suchB k n s.data.toList)) ∧ Below u.heap.size u w') := fun u => such_any k n s hs u
  have HB : Hid (∀ o u, Below (w.alloc o).heap.size (w.alloc o) u → Below w.heap.size w u ∧ u.cell? ⟨2, 0, none⟩ = some (erv es 1)) := fun o u hu => by
    have hb : Below w.heap.size w u := ((Below.refl _ _).alloc (Nat.le_refl _) o).trans (hu.mono (by simp))
    exact ⟨hb, by rw [hb.cell (World.block_lt_of_cell? w _ hA)]; exact hA⟩
  have hl := World.block_lt_of_cell? w _ hA
  clear hs
  by_cases hkz : k = z
  · subst hkz
    have H : Hid (okArg k n s.data.toList k = suchB k n s.data.toList) := by simp [Hid, okArg]
    rw [H.out]
    generalize suchB k n s.data.toList = q at *
    have hne : ((k : Int) != k) = false := by simp
    go_enter Tryd.func35, Tryd.ntmps35
    go_wp2_with fail
    refine (HS.out _).mono ?_
    rintro e w1 ⟨rfl, b1⟩
    obtain ⟨b2, hA2⟩ := HB.out _ _ b1
    clear b1 HB HS H
    cases q
    · go_wp2
      go_ret
      exact ⟨rfl, b2⟩
    · go_wp2
      go_ret
      exact ⟨rfl, b2⟩
  · have H : Hid (okArg k n s.data.toList z = false) := by simp [Hid, okArg, hkz]
    rw [H.out]
    have hne : ((k : Int) != z) = true := by rw [bne_iff_ne]; omega
    clear hkz HS
    obtain ⟨b2, hA2⟩ := HB.out (.cells #[.int .u8 k, .int .i64 n, .string s] 60) _ (Below.refl _ _)
    clear HB
    go_enter Tryd.func35, Tryd.ntmps35
    go_wp2
    go_ret
    exact ⟨rfl, b2⟩
end Go.Proofs.YtoggnfadfocogaaDoor
