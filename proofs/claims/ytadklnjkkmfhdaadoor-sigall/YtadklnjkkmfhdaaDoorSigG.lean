/- What SigTable counts, without the program; errors held against nil. -/
import Derived.Test.YtadklnjkkmfhdaaDoorRefT
import Derived.Deep.RegionHeldLaw
namespace Go.Proofs.YtadklnjkkmfhdaaDoor
open Go Go.RowKit

/-- How many of the first b numbers (from -1 on) are there, of the interface a - 1. -/
def rc (g : Int → Int → Bool) (a : Nat) : Nat → Nat
  | 0 => 0
  | b + 1 => rc g a b + if g ((a : Int) - 1) ((b : Int) - 1) = true then 1 else 0
/-- How many are there of the first a interfaces (from -1 on). -/
def tc (g : Int → Int → Bool) : Nat → Nat
  | 0 => 0
  | a + 1 => tc g a + rc g a 10
theorem rc_le (g : Int → Int → Bool) (a : Nat) : ∀ b, rc g a b ≤ b
  | 0 => Nat.le_refl _
  | b + 1 => by
    have := rc_le g a b
    rw [rc]
    split <;> omega
theorem tc_le (g : Int → Int → Bool) : ∀ a, tc g a ≤ 10 * a
  | 0 => Nat.le_refl _
  | a + 1 => by
    have := tc_le g a
    have := rc_le g a 10
    rw [tc]
    omega
def rqIs (f o : Int) : Bool := (rqAt f o).isSome
def evIs (f o : Int) : Bool := (evAt f o).isSome
theorem rq_count : tc rqIs 22 = 39 := by decide +kernel
theorem ev_count : tc evIs 22 = 18 := by decide +kernel

theorem Below.on {w w1 w2 : World} (h : Below w.heap.size w w1) (h2 : Below w1.heap.size w1 w2) : Below w.heap.size w w2 := h.trans (h2.mono h.size)

theorem wpAnyH_mono {P : Program} {md : Region.Mode} {ops : Array Oper} {Q : Exit → Act → World → Prop} {S S' : World → Prop} (h : ∀ x, S' x → S x) : ∀ {fuel : Nat} {listed : Array Bool} {a : Act} {w : World}, wpAnyH P md ops Q S' fuel listed a w → wpAnyH P md ops Q S fuel listed a w
  | 0, _, _, _, hh => hh
  | _ + 1, _, _, _, hh => ⟨hh.1, fun i hi => wpOp_mono (fun _ _ q => ⟨h _ q.1, wpAnyH_mono h q.2⟩) (hh.2 i hi)⟩

theorem errv_guard (a : Addr) (q : Bool) (x : Operand) (u : World) : Sem.run Tryd.prog (eqGuard BinOp.eql 24 x (.const .nilIface) (errv a q) .nilIface) u = .ok () u := by
  cases q <;> cases x <;> rfl
theorem errv_nil (a : Addr) (q : Bool) (u : World) : Sem.run Tryd.prog (binOp BinOp.eql 24 (errv a q) .nilIface) u = .ok (.bool q) u := by
  cases q <;> kernel_rfl
end Go.Proofs.YtadklnjkkmfhdaaDoor
