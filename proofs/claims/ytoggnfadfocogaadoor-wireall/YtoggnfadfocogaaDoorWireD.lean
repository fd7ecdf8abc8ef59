/- The contracts of the program's wire.putArg and wire.Put, and of tableaulaw04.awake. -/
import Derived.Test.YtoggnfadfocogaaDoorWireC
namespace Go.Proofs.YtoggnfadfocogaaDoor
open Go Go.RowKit

/-- A number as a number of 32 bits. -/
def m32 (n : Int) : Nat := (n % 4294967296).toNat

theorem m32_lt (n : Int) : m32 n < 4294967296 := by unfold m32; omega
theorem m32_cast (n : Int) : ((m32 n : Nat) : Int) = n % 4294967296 := by unfold m32; omega

/-- An argument's bytes. -/
def pa (x : AV) : List UInt8 := if x.k = 115 then putl (x.t ++ [0]) else if x.k = 97 then putl x.t else le4 (m32 x.n)
def pas (l : List AV) : List UInt8 := l.flatMap pa

theorem pas_append (a b : List AV) : pas (a ++ b) = pas a ++ pas b := by simp [pas]

theorem pa_le (x : AV) (h : x.s.size ≤ 99999) : (pa x).length ≤ 100010 := by
  have := size_toList x.s
  unfold pa
  split
  · rw [putl_length, List.length_append, AV.t, this]; simp; omega
  · split
    · rw [putl_length, AV.t, this]; omega
    · simp [le4]

set_option maxRecDepth 100000 in
theorem putArg_any (x : AV) (hs : x.s.size ≤ 99999) (w : World) :
    Calls Tryd.prog 26 #[.agg #[.int .u8 x.k, .int .i64 x.n, .string x.s]] w fun e w' => ∃ r, e = .returned r ∧ w'.ownsRow w.heap.size 5 1 r (pa x).length (bc (pa x)) ∧ Below w.heap.size w w' := by
  obtain ⟨k, n, s⟩ := x
  simp only at hs
  have HT : Hid (∀ u, Below w.heap.size w u → Calls Tryd.prog 37 #[.slice none 0 0, .string s] u fun e w' => ∃ r, e = .returned r ∧ w'.ownsRow w.heap.size 5 1 r (putl (s.data.toList ++ [0])).length (bc (putl (s.data.toList ++ [0]))) ∧ Below w.heap.size w w') := fun u hu => by
    refine (putText_any u none 0 0 [] (Rd.nil u) s hs (by decide)).mono ?_
    rintro e w' ⟨r, rfl, ho, hb⟩
    rw [Nat.zero_add, List.nil_append] at ho
    exact ⟨_, rfl, ownsRow_low ho hu.size, hu.trans (hb.mono hu.size)⟩
  have HL : Hid (∀ u, Below w.heap.size w u → Calls Tryd.prog 38 #[.slice none 0 0, .string s] u fun e w' => ∃ r, e = .returned r ∧ w'.ownsRow w.heap.size 5 1 r (putl s.data.toList).length (bc (putl s.data.toList)) ∧ Below w.heap.size w w') := fun u hu => by
    refine (putList_any u none 0 0 [] (Rd.nil u) s (by omega) (by decide)).mono ?_
    rintro e w' ⟨r, rfl, ho, hb⟩
    rw [Nat.zero_add, List.nil_append] at ho
    exact ⟨_, rfl, ownsRow_low ho hu.size, hu.trans (hb.mono hu.size)⟩
  have HP : Hid (∀ u, Below w.heap.size w u → Calls Tryd.prog 27 #[.slice none 0 0, .int .u32 (n % 4294967296)] u fun e w' => ∃ r, e = .returned r ∧ w'.ownsRow w.heap.size 5 1 r (le4 (m32 n)).length (bc (le4 (m32 n))) ∧ Below w.heap.size w w') := fun u hu => by
    rw [← m32_cast]
    refine (put_any u none 0 0 [] (Rd.nil u) (m32 n) (m32_lt n) (by decide)).mono ?_
    rintro e w' ⟨r, rfl, ho, hb⟩
    rw [Nat.zero_add, List.nil_append] at ho
    exact ⟨_, rfl, ownsRow_low ho hu.size, hu.trans (hb.mono hu.size)⟩
  have HB : Hid (∀ o, Below w.heap.size w (w.alloc o)) := fun o => (Below.refl _ _).alloc (Nat.le_refl _) o
  by_cases h1 : k = 115
  · subst h1
    show Calls _ _ _ _ fun e w' => ∃ r, e = .returned r ∧ w'.ownsRow w.heap.size 5 1 r (putl (s.data.toList ++ [0])).length (bc (putl (s.data.toList ++ [0]))) ∧ Below w.heap.size w w'
    go_enter Tryd.func26, Tryd.ntmps26
    go_wp2_with fail
    refine (HT.out _ (HB.out _)).mono ?_
    rintro e w1 ⟨r1, rfl, o1, b1⟩
    go_wp2
    go_ret
    exact ⟨_, rfl, o1, b1⟩
  · by_cases h2 : k = 97
    · subst h2
      show Calls _ _ _ _ fun e w' => ∃ r, e = .returned r ∧ w'.ownsRow w.heap.size 5 1 r (putl s.data.toList).length (bc (putl s.data.toList)) ∧ Below w.heap.size w w'
      go_enter Tryd.func26, Tryd.ntmps26
      go_wp2_with fail
      refine (HL.out _ (HB.out _)).mono ?_
      rintro e w1 ⟨r1, rfl, o1, b1⟩
      go_wp2
      go_ret
      exact ⟨_, rfl, o1, b1⟩
    · have e1 : ((k : Int) == 115) = false := beq_eq_false_iff_ne.2 (by omega)
      have e2 : ((k : Int) == 97) = false := beq_eq_false_iff_ne.2 (by omega)
      have H : Hid (pa ⟨k, n, s⟩ = le4 (m32 n)) := by simp [Hid, pa, h1, h2]
      clear h1 h2
      rw [H.out]
      go_enter Tryd.func26, Tryd.ntmps26
      go_wp2_with fail
      refine (HP.out _ (HB.out _)).mono ?_
      rintro e w1 ⟨r1, rfl, o1, b1⟩
      go_wp2
      go_ret
      exact ⟨_, rfl, o1, b1⟩
end Go.Proofs.YtoggnfadfocogaaDoor
