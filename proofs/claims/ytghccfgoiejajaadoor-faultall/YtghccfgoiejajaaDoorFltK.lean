/- The words of errors; Wrap; New. -/
import Derived.Test.YtghccfgoiejajaaDoorFltJ
import Derived.Test.YtghccfgoiejajaaDoorBldA
namespace Go.Proofs.YtghccfgoiejajaaDoor
open Go Go.RowKit

/-- What an error says. -/
inductive Tx (w : World) : Value → List UInt8 → Prop where
  | leaf (a : Addr) (s : ByteArray) (h : w.cell? a = some (.string s)) : Tx w (eS a) s.data.toList
  | fault (b : Nat) (o c : Int) (s : ByteArray) (v : Value) (h : w.heap[b]? = some (.cells #[.int .i64 o, .int .i64 c, .string s, v] 31 (0, 0))) : Tx w (eF b) s.data.toList
  | wrap (b : Nat) (s : ByteArray) (v : Value) (t : List UInt8) (h : w.heap[b]? = some (.cells #[.string s, v] 50 (0, 0))) (hr : rank v < b + 1) (hv : Tx w v t) : Tx w (eW b) (s.data.toList ++ [58, 32] ++ t)

theorem Tx.stays {w w' : World} {v : Value} {t : List UInt8} (h : Tx w v t) (hb : Below w.heap.size w w') : Tx w' v t := by
  have blk : ∀ {b o}, w.heap[b]? = some o → w'.heap[b]? = some o := fun {b o} e => by
    rw [hb.block _ (Array.getElem?_eq_some_iff.1 e).1]
    exact e
  induction h with
  | leaf a s h => exact .leaf a s (by rw [hb.cell (World.block_lt_of_cell? w _ h)]; exact h)
  | fault b o c s v h => exact .fault b o c s v (blk h)
  | wrap b s v t h hr _ ih => exact .wrap b s v t (blk h) hr ih

theorem mErrorE (n : Nat) (v : Value) (w : World) : (Go.method (n + 1) 68 v "Error").run Tryd.prog w = .ok (61, v) w := by kernel_rfl
theorem mErrorF (n : Nat) (v : Value) (w : World) : (Go.method (n + 1) 40 v "Error").run Tryd.prog w = .ok (22, v) w := by kernel_rfl
theorem mErrorW (n : Nat) (v : Value) (w : World) : (Go.method (n + 1) 48 v "Error").run Tryd.prog w = .ok (52, v) w := by kernel_rfl

theorem errorE (w : World) (a : Addr) (s : ByteArray) (h : w.cell? a = some (.string s)) : Calls Tryd.prog 61 #[.pointer (some a)] w fun e w' => e = .returned (.string s) ∧ w' = w := by
  go_enter Tryd.func61, Tryd.ntmps61
  go_wp2
  go_ret
  exact ⟨rfl, rfl⟩

theorem errorF (w : World) (b : Nat) (o c : Int) (s : ByteArray) (v : Value) (h : w.heap[b]? = some (.cells #[.int .i64 o, .int .i64 c, .string s, v] 31 (0, 0))) : Calls Tryd.prog 22 #[.pointer (some ⟨b, 0, none⟩)] w fun e w' => e = .returned (.string s) ∧ w' = w := by
  have c2 : w.cell? ⟨b, 2, none⟩ = some (.string s) := by rw [World.cell?, h]; rfl
  clear h
  go_enter Tryd.func22, Tryd.ntmps22
  go_wp2
  go_ret
  exact ⟨rfl, rfl⟩

def blockOf : Value → Nat
  | .pointer (some a) => a.block
  | _ => 0

/-- A builder that holds bytes. -/
def Bld (N : Nat) (l : List UInt8) (w : World) : Prop := Lib.IsBuilder 105 5 N N (Lib.byteCells l) w

theorem strCells_bytes (s : ByteArray) : Lib.strCells s = Lib.byteCells s.data.toList := by
  simp [Lib.strCells, Lib.byteCells]

theorem bld_write (N : Nat) (l : List UInt8) (s : ByteArray) (w : World) (h : Bld N l w) (hlen : l.length + s.size ≤ 100000) (hN : N ≤ w.heap.size) :
    Calls Tryd.prog 54 #[.pointer (some ⟨N, 0, none⟩), .string s] w fun e w' => e = .returned (.tuple #[.int .i64 s.size, .nilIface]) ∧ (Bld N (l ++ s.data.toList) w' ∧ Below N w w') := by
  refine (builder_WriteString N N (Lib.byteCells l) s w h (by simp [Lib.byteCells]; omega) hN).mono ?_
  rintro e w' ⟨rfl, h1, h2⟩
  refine ⟨rfl, .inr ?_, h2⟩
  rw [strCells_bytes] at h1
  rw [Lib.byteCells, List.map_append]
  exact h1
end Go.Proofs.YtghccfgoiejajaaDoor
