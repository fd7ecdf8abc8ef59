/- Rows of notes that a law makes for itself. -/
import Derived.Test.YtegmolmjoiklpaaSeH
import Derived.Test.YtegmolmjoiklpaaStaB
import Derived.Test.YtegmolmjoiklpaaLibB
import Derived.Test.YtegmolmjoiklpaaLibP
namespace Go.Proofs.Ytegmolmjoiklpaa
open Go Go.RowKit Go.Shelf

theorem wf64 {z : Int} (h : (Lit.int .i64 z).wf = true) : -9223372036854775808 ≤ z ∧ z ≤ 9223372036854775807 := by simpa [Lit.wf, IntKind.min, IntKind.max, IntKind.signed, IntKind.bits] using h
/-- A note as what is appended. -/
theorem src_note (U : World) (z0 z1 z2 z3 : Int) : Src Try.prog 4 43 (.slice (some ⟨U.heap.size, 0, none⟩) 1 1) 1 (mcs [[z0, z1, z2, z3]]) (U.alloc (.cells #[.int .i64 z0, .int .i64 z1, .int .i64 z2, .int .i64 z3] 56)) :=
  (rdm_one U z0 z1 z2 z3 56).src Try.underlying43
theorem OwM.more {m e : Nat} {w u u' : World} {v v' : Value} {l k : List (List Int)} {o : Obj} (h : OwM m e w u v l) (hk : ∀ y ∈ k, y.length = m) (o2 : u'.ownsRow w.heap.size e m v' (l.length + k.length) (mcs l ++ mcs k)) (g : (u.alloc o).grownBy u' v.ownBlock) : OwM m e w u' v' (l ++ k) :=
  (h.on (bel_nw u o)).grown hk o2 g
/-- Two notes' rows, one by one. -/
theorem lok_len (old s x y : Int) : (lokN old s x y).length ≤ 2 := by
  by_cases h : old = s
  · subst h
    rw [lokN_same]
    decide
  · rw [lokN_other h, chgN]
    split <;> split <;> simp
end Go.Proofs.Ytegmolmjoiklpaa
