/- fault.Code, the document's own Code and Text, Place, Error. -/
import Derived.Test.YtghccfgoiejajaaDoorFltH
namespace Go.Proofs.YtghccfgoiejajaaDoor
open Go Go.RowKit

/-- P2.2, by kind. -/
def codeOf : Nat → Int
  | 0 => 10 | 1 => 0 | 2 => 1 | 3 => 1 | 4 => 2 | 5 => 0 | 6 => 1 | 7 => 3 | 8 => 4 | 9 => 5 | 10 => 6 | 11 => 7 | 12 => 8 | 13 => 9 | 14 => 2 | _ => 10

set_option maxRecDepth 100000 in
theorem fcode_of (w : World) (v : Value) (K : Nat) (hK : K ≤ 17) (h : Calls Tryd.prog 18 #[v] w fun e w' => e = .returned (.int .i64 (K : Nat)) ∧ Below w.heap.size w w') :
    Calls Tryd.prog 16 #[v] w fun e w' => e = .returned (.int .i64 (codeOf K)) ∧ Below w.heap.size w w' := by
  have HC : Hid (Calls Tryd.prog 18 #[v] w fun e w' => e = .returned (.int .i64 (K : Nat)) ∧ Below w.heap.size w w') := h
  clear h
  have hk : K = 0 ∨ K = 1 ∨ K = 2 ∨ K = 3 ∨ K = 4 ∨ K = 5 ∨ K = 6 ∨ K = 7 ∨ K = 8 ∨ K = 9 ∨ K = 10 ∨ K = 11 ∨ K = 12 ∨ K = 13 ∨ K = 14 ∨ K = 15 ∨ K = 16 ∨ K = 17 := by omega
  clear hK
  rcases hk with rfl | rfl | rfl | rfl | rfl | rfl | rfl | rfl | rfl | rfl | rfl | rfl | rfl | rfl | rfl | rfl | rfl | rfl
  all_goals
    go_enter Tryd.func16, Tryd.ntmps16
    go_wp2_with (go_at_call 18; refine HC.out.mono ?_; rintro e w' ⟨rfl, hb⟩; have HB : Hid (Below w.heap.size w w') := hb; clear hb)
    go_ret
    exact ⟨rfl, HB.out⟩

set_option maxRecDepth 100000 in
theorem refCode (w : World) (K : Nat) (hK : K ≤ 16) : Calls Tryd.prog 17 #[.int .i64 K] w fun e w' => e = .returned (.int .i64 (codeOf K)) ∧ w' = w := by
  have hk : K = 0 ∨ K = 1 ∨ K = 2 ∨ K = 3 ∨ K = 4 ∨ K = 5 ∨ K = 6 ∨ K = 7 ∨ K = 8 ∨ K = 9 ∨ K = 10 ∨ K = 11 ∨ K = 12 ∨ K = 13 ∨ K = 14 ∨ K = 15 ∨ K = 16 := by omega
  clear hK
  rcases hk with rfl | rfl | rfl | rfl | rfl | rfl | rfl | rfl | rfl | rfl | rfl | rfl | rfl | rfl | rfl | rfl | rfl
  all_goals
    go_enter Tryd.func17, Tryd.ntmps17
    go_wp2
    go_ret
    exact ⟨rfl, rfl⟩

/-- An error's words, by kind. -/
def wordsX : List (List UInt8) := [[97, 114, 103, 117, 109, 101, 110, 116], [115, 104, 111, 114, 116], [98, 121, 116, 101, 115], [98, 105, 103], [111, 98, 106, 101, 99, 116], [109, 101, 116, 104, 111, 100], [102, 111, 114, 109, 97, 116], [115, 116, 114, 105, 100, 101], [102, 105, 108, 101], [114, 111, 108, 101], [112, 108, 97, 99, 101], [115, 116, 97, 116, 101], [115, 101, 114, 105, 97, 108], [102, 117, 108, 108], [103, 111, 110, 101], [115, 104, 101, 101, 116]]
theorem words_x : words = wordsX := by kernel_rfl
def wordsOf (k : Nat) : ByteArray := ⟨((([] : List UInt8) :: wordsX).getD k []).toArray⟩

set_option maxRecDepth 100000 in
set_option maxHeartbeats 2000000 in
theorem refText (w : World) (K : Nat) (hK : K ≤ 16) : Calls Tryd.prog 15 #[.int .i64 K] w fun e w' => e = .returned (.string (wordsOf K)) ∧ Below w.heap.size w w' := by
  have hk : K = 0 ∨ K = 1 ∨ K = 2 ∨ K = 3 ∨ K = 4 ∨ K = 5 ∨ K = 6 ∨ K = 7 ∨ K = 8 ∨ K = 9 ∨ K = 10 ∨ K = 11 ∨ K = 12 ∨ K = 13 ∨ K = 14 ∨ K = 15 ∨ K = 16 := by omega
  clear hK
  rcases hk with rfl | rfl | rfl | rfl | rfl | rfl | rfl | rfl | rfl | rfl | rfl | rfl | rfl | rfl | rfl | rfl | rfl
  all_goals
    go_enter Tryd.func15, Tryd.ntmps15
    go_wp2
    go_ret
    exact ⟨rfl, (Below.refl _ _).alloc (Nat.le_refl _) _⟩

end Go.Proofs.YtghccfgoiejajaaDoor
