/- fault.Of. -/
import Derived.Test.YtghccfgoiejajaaDoorFltE
import Derived.Lib.Builder
namespace Go.Proofs.YtghccfgoiejajaaDoor
open Go Go.RowKit

theorem heap_new (w : World) (o : Obj) : (w.alloc o).heap[w.heap.size]? = some o := by
  show (w.heap.push o)[w.heap.size]? = some o
  simp

/-- The world with Of's result's variable. -/
abbrev wZ (w : World) : World := w.alloc (.cells #[.int .i64 0, .int .i64 0, .string ⟨#[]⟩, .nilIface] 31)
theorem wZ_below (w : World) : Below w.heap.size w (wZ w) := (Below.refl _ _).alloc (Nat.le_refl _) _
theorem wZ_size (w : World) : (wZ w).heap.size = w.heap.size + 1 := by simp [wZ]
theorem wZP_below (w : World) : Below w.heap.size w (wP (wZ w)) := (wZ_below w).trans ((wP_below (wZ w)).mono (wZ_below w).size)

theorem wZP_zero (w : World) : (wP (wZ w)).heap[w.heap.size]? = some (.cells #[.int .i64 0, .int .i64 0, .string ⟨#[]⟩, .nilIface] 31 (0, 0)) := by
  rw [(wP_below (wZ w)).block _ (by rw [wZ_size]; omega)]
  exact heap_new _ _

theorem As_var2 (w : World) (es : List Addr) (L v : Value) (F : Option Nat) (h : Ch w L v F) (ha : All w es) :
    Calls Tryd.prog 21 #[v, .iface 42 (.pointer (some ⟨w.heap.size + 1, 0, none⟩))] (wP (wZ w)) (AsEnds (wP (wZ w)) F ⟨w.heap.size + 1, 0, none⟩) := by
  have e := As_var (wZ w) es L v F (h.stays (wZ_below w)) (ha.below (wZ_below w))
  rw [wZ_size] at e
  exact e

set_option maxRecDepth 100000 in
set_option maxHeartbeats 400000 in
theorem of_none (w : World) (es : List Addr) (L v : Value) (h : Ch w L v none) (ha : All w es) :
    Calls Tryd.prog 14 #[v] w fun e w' => e = .returned (ofRet 0 0 ⟨#[]⟩ .nilIface false) ∧ Below w.heap.size w w' := by
  have b1 := wZP_below w
  have HC : Hid (∀ _ : Unit, Calls Tryd.prog 21 #[v, .iface 42 (.pointer (some ⟨w.heap.size + 1, 0, none⟩))] (wP (wZ w)) fun e w' => e = .returned (.bool false) ∧ (w'.heap[w.heap.size]? = some (.cells #[.int .i64 0, .int .i64 0, .string ⟨#[]⟩, .nilIface] 31 (0, 0)) ∧ Below w.heap.size w w')) := fun _ => by
    refine (As_var2 w es L v none h ha).mono ?_
    rintro e w' ⟨h1, h2⟩
    exact ⟨h1, by rw [h2.block _ (by simp [wP, wZ]; omega)]; exact wZP_zero w, b1.trans (h2.mono b1.size)⟩
  clear h ha b1
  go_enter Tryd.func14, Tryd.ntmps14
  go_wp2_with (go_at_call 21; refine (HC.out ()).mono ?_; rintro e w' ⟨rfl, hz, hb⟩; have z0 : w'.cell? ⟨w.heap.size, 0, none⟩ = some (.int .i64 0) := (by rw [World.cell?, hz]; rfl); have z1 : w'.cell? ⟨w.heap.size, 1, none⟩ = some (.int .i64 0) := (by rw [World.cell?, hz]; rfl); have z2 : w'.cell? ⟨w.heap.size, 2, none⟩ = some (.string ⟨#[]⟩) := (by rw [World.cell?, hz]; rfl); have z3 : w'.cell? ⟨w.heap.size, 3, none⟩ = some .nilIface := (by rw [World.cell?, hz]; rfl); have zf : ∀ k, w'.frozen? ⟨w.heap.size, k, none⟩ = false := Lib.frozen_of_heap hz; clear hz; have HB : Hid (Below w.heap.size w w') := hb; clear hb)
  refine bodyPost_ret (v := ofRet 0 0 ⟨#[]⟩ .nilIface false) ?_ rfl ⟨rfl, ?_⟩
  · simp [results, Tryd.results14, go_sem, z0, z1, z2, z3, ofRet]
  · exact (((HB.out.setCell (p := ⟨w.heap.size, 0, none⟩) (Nat.le_refl _) _).setCell (p := ⟨w.heap.size, 1, none⟩) (Nat.le_refl _) _).setCell (p := ⟨w.heap.size, 2, none⟩) (Nat.le_refl _) _).setCell (p := ⟨w.heap.size, 3, none⟩) (Nat.le_refl _) _

set_option maxRecDepth 100000 in
set_option maxHeartbeats 400000 in
theorem of_some (w : World) (es : List Addr) (L v : Value) (b : Nat) (h : Ch w L v (some b)) (ha : All w es) (o c : Int) (s : ByteArray) (y : Value) (hy : y = .nilIface ∨ ∃ t q, y = .iface t q) (hb : w.heap[b]? = some (.cells #[.int .i64 o, .int .i64 c, .string s, y] 31 (0, 0))) :
    Calls Tryd.prog 14 #[v] w fun e w' => e = .returned (ofRet o c s y true) ∧ Below w.heap.size w w' := by
  have b1 := wZP_below w
  have HC : Hid (∀ _ : Unit, Calls Tryd.prog 21 #[v, .iface 42 (.pointer (some ⟨w.heap.size + 1, 0, none⟩))] (wP (wZ w)) fun e w' => e = .returned (.bool true) ∧ (w'.heap[w.heap.size]? = some (.cells #[.int .i64 0, .int .i64 0, .string ⟨#[]⟩, .nilIface] 31 (0, 0)) ∧ w'.cell? ⟨w.heap.size + 1, 0, none⟩ = some (.pointer (some ⟨b, 0, none⟩)) ∧ w'.heap[b]? = some (.cells #[.int .i64 o, .int .i64 c, .string s, y] 31 (0, 0)) ∧ Below w.heap.size w w')) := fun _ => by
    refine (As_var2 w es L v (some b) h ha).mono ?_
    rintro e w' ⟨h1, h2, h3⟩
    have hb2 := b1.trans (h2.mono (Nat.le_succ _))
    exact ⟨h1, by rw [h2.block _ (Nat.lt_succ_self _)]; exact wZP_zero w, h3, by rw [hb2.block _ (Array.getElem?_eq_some_iff.1 hb).1]; exact hb, hb2⟩
  clear h ha b1 hb
  rcases hy with rfl | ⟨ty, qy, rfl⟩
  all_goals
    go_enter Tryd.func14, Tryd.ntmps14
    go_wp2_with (go_at_call 21; refine (HC.out ()).mono ?_; rintro e w' ⟨rfl, hz, hq, hy, hb⟩; have z0 : w'.cell? ⟨w.heap.size, 0, none⟩ = some (.int .i64 0) := (by rw [World.cell?, hz]; rfl); have z1 : w'.cell? ⟨w.heap.size, 1, none⟩ = some (.int .i64 0) := (by rw [World.cell?, hz]; rfl); have z2 : w'.cell? ⟨w.heap.size, 2, none⟩ = some (.string ⟨#[]⟩) := (by rw [World.cell?, hz]; rfl); have z3 : w'.cell? ⟨w.heap.size, 3, none⟩ = some .nilIface := (by rw [World.cell?, hz]; rfl); have zf : ∀ k, w'.frozen? ⟨w.heap.size, k, none⟩ = false := Lib.frozen_of_heap hz; clear hz; have HB : Hid (Below w.heap.size w w') := hb; clear hb; have c0 : w'.cell? ⟨b, 0, none⟩ = some (.int .i64 o) := (by rw [World.cell?, hy]; rfl); have c1 : w'.cell? ⟨b, 1, none⟩ = some (.int .i64 c) := (by rw [World.cell?, hy]; rfl); have c2 : w'.cell? ⟨b, 2, none⟩ = some (.string s) := (by rw [World.cell?, hy]; rfl); have c3 : w'.cell? ⟨b, 3, none⟩ = some _ := (by rw [World.cell?, hy]; rfl); clear hy)
    refine bodyPost_ret (v := ofRet o c s _ true) ?_ rfl ⟨rfl, ?_⟩
    · simp [results, Tryd.results14, go_sem, z0, z1, z2, z3, ofRet]
    · exact (((HB.out.setCell (p := ⟨w.heap.size, 0, none⟩) (Nat.le_refl _) _).setCell (p := ⟨w.heap.size, 1, none⟩) (Nat.le_refl _) _).setCell (p := ⟨w.heap.size, 2, none⟩) (Nat.le_refl _) _).setCell (p := ⟨w.heap.size, 3, none⟩) (Nat.le_refl _) _
end Go.Proofs.YtghccfgoiejajaaDoor
