/- fault.Is: errors.Is behind a deferred recover; nothing panics here. -/
import Derived.Test.YtghccfgoiejajaaDoorFltA
import Derived.Defers
import Derived.Recover
import Derived.Laws.Pointers
namespace Go.Proofs.YtghccfgoiejajaaDoor
open Go Go.RowKit

theorem catch_idle (p : Addr) (w : World) :
    CallsD Tryd.prog 25 #[.pointer (some p)] .returning w fun e u' w' => e = .returned (.tuple #[]) ∧ u' = .returning ∧ w' = w := by
  refine callsD_of_wpS Tryd.func25 rfl fun c₀ cs hu => ?_
  apply wpS_seq
  apply wpS_region
  simp [wpOpsS, go_sem, recoverD, hu, Tryd.ntmps25, Exit.thenS]
  refine wpS_cond (t := false) (by simp [Act.eval, Array.replicate]) ?_
  simp only [Bool.false_eq_true, if_false]
  refine wpS_of_wp (wp_skip ?_)
  cases c₀
  simp_all [bodyPostS, results, Tryd.results25]

set_option maxRecDepth 100000 in
theorem fIs (w : World) (v y : Value) (r : Bool) (h : ∀ w', Below w.heap.size w w' → Calls Tryd.prog 20 #[v, y] w' fun e w'' => e = .returned (.bool r) ∧ w'' = w') :
    Calls Tryd.prog 19 #[v, y] w fun e w' => e = .returned (.bool r) ∧ Below w.heap.size w w' := by
  have hmf : ∀ (fn : Fn) (first cap : Array Value) (w : World), (Instr.makeFunc fn first cap).run Tryd.prog w = .ok (.func fn first cap) w := fun _ _ _ _ => rfl
  have HC : Hid (∀ w', Below w.heap.size w w' → Calls Tryd.prog 20 #[v, y] w' fun e w'' => e = .returned (.bool r) ∧ w'' = w') := h
  clear h
  go_enter_defers Tryd.func19, Tryd.ntmps19
  go_wp2_with (go_at_call 20; refine (HC.out _ ?hb).mono ?_; rotate_left; rintro e w' ⟨rfl, rfl⟩)
  refine leaves_cons (f := 25) (args := #[.pointer (some ⟨w.heap.size, 0, none⟩)]) (by simp) (by simp [go_sem]) ?_
  refine (catch_idle ⟨w.heap.size, 0, none⟩ _).mono ?_
  rintro e u' w'' ⟨rfl, rfl, rfl⟩
  · simp [Leaves, settle, results, Tryd.results19, go_sem]
    exact (Below.refl _ _).alloc (Nat.le_refl _) _
  case hb => exact (Below.refl _ _).alloc (Nat.le_refl _) _
end Go.Proofs.YtghccfgoiejajaaDoor
