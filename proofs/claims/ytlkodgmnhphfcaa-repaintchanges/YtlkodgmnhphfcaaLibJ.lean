/- A block whole; a struct of six numbers read; over any program. -/
import Derived.Test.YtlkodgmnhphfcaaLibK
import Derived.Test.YtlkodgmnhphfcaaStaA
import Derived.Laws.Rows
import Derived.Lib.Builder
import Derived.Shelf.Abstract
namespace Go.Proofs.Ytlkodgmnhphfcaa
open Go Go.RowKit

/-- A block whole. -/
structure Bk (u : World) (p T : Nat) (cs : Array Value) : Prop where
  obj : u.heap[p]? = some (.cells cs T (0, 0))
theorem Bk.lt {u : World} {p T : Nat} {cs : Array Value} (h : Bk u p T cs) : p < u.heap.size := (Array.getElem?_eq_some_iff.1 h.obj).1
theorem Bk.cell {u : World} {p T : Nat} {cs : Array Value} (h : Bk u p T cs) (k : Nat) : u.cell? ⟨p, k, none⟩ = cs[k]? := Lib.cell_of_heap h.obj k
theorem Bk.fz {u : World} {p T : Nat} {cs : Array Value} (h : Bk u p T cs) (k : Nat) : u.frozen? ⟨p, k, none⟩ = false := Lib.frozen_of_heap h.obj k
theorem Bk.on {u v : World} {p T : Nat} {cs : Array Value} (h : Bk u p T cs) (hb : Below u.heap.size u v) : Bk v p T cs := ⟨by rw [hb.block p h.lt]; exact h.obj⟩
theorem Bk.kp {u v : World} {p T : Nat} {cs : Array Value} (h : Bk u p T cs) {X : List Nat} (hb : Kp X u v) (hX : p ∉ X) : Bk v p T cs := ⟨hb.var h.obj hX⟩
theorem bk_new (w : World) (cs : Array Value) (T : Nat) : Bk (w.alloc (.cells cs T)) w.heap.size T cs := ⟨heap_alloc_new w _⟩
theorem Bk.set {u : World} {p T : Nat} {cs : Array Value} (h : Bk u p T cs) (k : Nat) (v : Value) : Bk (u.setCell ⟨p, k, none⟩ v) p T (cs.setIfInBounds k v) := ⟨heap_setCell_same _ p k _ _ _ h.obj⟩
theorem Bk.other {u : World} {p q T : Nat} {cs : Array Value} (h : Bk u p T cs) (hn : p ≠ q) (k : Nat) (v : Value) : Bk (u.setCell ⟨q, k, none⟩ v) p T cs := ⟨by rw [heap_setCell_other _ _ _ _ hn]; exact h.obj⟩
theorem bel_new (w : World) (o : Obj) : Below w.heap.size w (w.alloc o) := (Below.refl _ _).alloc (Nat.le_refl _) _
theorem size_new (w : World) (o : Obj) : (w.alloc o).heap.size = w.heap.size + 1 := by simp

theorem results_cell_tmp' {P : Program} {fn : Func} {p u : Tmp} {ty : TypeId} (h : fn.results = #[.cell p ty, .tmp u]) (tmps : Array Value) (w : World) (g : Nat) (t : TypeId) (cs : Array Value) (fr : Nat × Nat) (d : TypeDesc)
    (hp : tmps.getD p undef = .pointer (some ⟨g, 0, none⟩)) (hg : w.heap[g]? = some (.cells cs t fr))
    (hu : P.underlying ty = some d) (hd : (match d with | .struct _ | .array _ _ => true | _ => false) = true) (hi : (P.info? ty).map (·.size) = some cs.size) :
    (results fn tmps).run P w = .ok (.tuple #[.agg cs, tmps.getD u undef]) w := by
  have hp' : tmps[p]?.getD undef = .pointer (some ⟨g, 0, none⟩) := by simpa using hp
  simp [results, h, hp', asAddr, run_loadVar_row w g t ty cs fr d hg hu hd hi]
theorem RdM.el6 {w : World} {a : Option Addr} {n c : Nat} {l : List (List Int)} (h : RdM 6 w a n c l) {j : Nat} (hj : j < n) : ∃ b off z0 z1 z2 z3 z4 z5, a = some ⟨b, off, none⟩ ∧ b < w.heap.size ∧ l[j]? = some [z0, z1, z2, z3, z4, z5] ∧ w.cell? ⟨b, off + j * 6, none⟩ = some (.int .i64 z0) ∧ w.cell? ⟨b, off + j * 6 + 1, none⟩ = some (.int .i64 z1) ∧ w.cell? ⟨b, off + j * 6 + 2, none⟩ = some (.int .i64 z2) ∧ w.cell? ⟨b, off + j * 6 + 3, none⟩ = some (.int .i64 z3) ∧ w.cell? ⟨b, off + j * 6 + 4, none⟩ = some (.int .i64 z4) ∧ w.cell? ⟨b, off + j * 6 + 5, none⟩ = some (.int .i64 z5) := by
  obtain ⟨b, off, y, e, h1, h2, h3, h4⟩ := h.at_ hj
  match y, h3 with
  | [z0, z1, z2, z3, z4, z5], _ => exact ⟨b, off, z0, z1, z2, z3, z4, z5, e, h1, h2, by simpa using h4 0 z0 rfl, by simpa [Nat.add_assoc] using h4 1 z1 rfl, by simpa [Nat.add_assoc] using h4 2 z2 rfl, by simpa [Nat.add_assoc] using h4 3 z3 rfl, by simpa [Nat.add_assoc] using h4 4 z4 rfl, by simpa [Nat.add_assoc] using h4 5 z5 rfl⟩
theorem fits48 {need b : Nat} (h : need ≤ 1000000000) (hb : b ≤ 48) : ∀ old, old < need → Builtin.nextslicecap need old * b ≤ 281474976710656 := fun old ho => by
  have h1 := nextslicecap_near ho
  have h2 : Builtin.nextslicecap need old * b ≤ Builtin.nextslicecap need old * 48 := Nat.mul_le_mul_left _ hb
  omega
/-- A struct's i-th number. -/
def nm5 (i : Nat) (y : List Int) : Int := y.getD i 0

end Go.Proofs.Ytlkodgmnhphfcaa
