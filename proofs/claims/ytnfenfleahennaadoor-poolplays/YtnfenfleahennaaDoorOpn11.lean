/- A slice of calls (five numbers and an array of six each), as it comes in: opened. -/
import Derived.Test.YtnfenfleahennaaDoorPolA
import Derived.Test.YtnfenfleahennaaDoorLibA
import Derived.Test.YtnfenfleahennaaDoorChecked
import Derived.Lib.SmallJoins
import Derived.ProofKit
import Derived.OpenShut
import Derived.ShutString
import Derived.ChangeOld
import Derived.SizedLaws
namespace Go.Proofs.YtnfenfleahennaaDoor
open Go Go.ChangeShapes Go.WideShapes Go.ChangeAt Go.RowKit Go.Deep

/-- Each of n elements is eleven numbers. -/
structure RdO (w : World) (a : Option Addr) (n c : Nat) : Prop where
  le : n ≤ c
  max : c ≤ maxLen
  each : ∀ j, j < n → ∃ b off k0 k1 k2 k3 k4 k5 k6 k7 k8 k9 k10, a = some ⟨b, off, none⟩ ∧ b < w.heap.size ∧ (w.cell? ⟨b, off + j * 11, none⟩ = some (.int .i64 k0) ∧ w.cell? ⟨b, off + j * 11 + 1, none⟩ = some (.int .i64 k1) ∧ w.cell? ⟨b, off + j * 11 + 2, none⟩ = some (.int .i64 k2) ∧ w.cell? ⟨b, off + j * 11 + 3, none⟩ = some (.int .i64 k3) ∧ w.cell? ⟨b, off + j * 11 + 4, none⟩ = some (.int .i64 k4) ∧ w.cell? ⟨b, off + j * 11 + 5, none⟩ = some (.int .i64 k5) ∧ w.cell? ⟨b, off + j * 11 + 6, none⟩ = some (.int .i64 k6) ∧ w.cell? ⟨b, off + j * 11 + 7, none⟩ = some (.int .i64 k7) ∧ w.cell? ⟨b, off + j * 11 + 8, none⟩ = some (.int .i64 k8) ∧ w.cell? ⟨b, off + j * 11 + 9, none⟩ = some (.int .i64 k9) ∧ w.cell? ⟨b, off + j * 11 + 10, none⟩ = some (.int .i64 k10)) ∧ I64 k0 ∧ I64 k1 ∧ I64 k2 ∧ I64 k3 ∧ I64 k4 ∧ I64 k5 ∧ I64 k6 ∧ I64 k7 ∧ I64 k8 ∧ I64 k9 ∧ I64 k10

theorem cellsOp : Tryd.prog.cellsOf 32 = 11 := by kernel_rfl
theorem cellsI6 : Tryd.prog.cellsOf 30 = 6 := by kernel_rfl
theorem cellsI1 : Tryd.prog.cellsOf 3 = 1 := by kernel_rfl

variable {H : Type} {enc : TypeId × Value → H} {W : World} {d : DataW H} {p : List MemPlace}

set_option maxRecDepth 100000 in
theorem open_six {n : Nat} {c0 c1 c2 c3 c4 c5 : Value} {x : DataW H × List MemPlace} (h : DataW.trod enc Tryd.prog W 0 (fun _ => true) true n 30 [c0, c1, c2, c3, c4, c5] = some x) : ∃ k0 k1 k2 k3 k4 k5, [c0, c1, c2, c3, c4, c5] = [.int .i64 k0, .int .i64 k1, .int .i64 k2, .int .i64 k3, .int .i64 k4, .int .i64 k5] ∧ I64 k0 ∧ I64 k1 ∧ I64 k2 ∧ I64 k3 ∧ I64 k4 ∧ I64 k5 := by
  obtain ⟨xs, k, _, _, hl, hlen, hx⟩ := DataW.trod_array Tryd.underlying30 h
  rw [cellsI1] at hx
  match xs, hlen with
  | [x0, x1, x2, x3, x4, x5], _ =>
    have h0 : DataW.trod enc Tryd.prog W 0 (fun _ => true) true k 3 [c0] = some x0 := hx 0 (by decide)
    have h1 : DataW.trod enc Tryd.prog W 0 (fun _ => true) true k 3 [c1] = some x1 := hx 1 (by decide)
    have h2 : DataW.trod enc Tryd.prog W 0 (fun _ => true) true k 3 [c2] = some x2 := hx 2 (by decide)
    have h3 : DataW.trod enc Tryd.prog W 0 (fun _ => true) true k 3 [c3] = some x3 := hx 3 (by decide)
    have h4 : DataW.trod enc Tryd.prog W 0 (fun _ => true) true k 3 [c4] = some x4 := hx 4 (by decide)
    have h5 : DataW.trod enc Tryd.prog W 0 (fun _ => true) true k 3 [c5] = some x5 := hx 5 (by decide)
    obtain ⟨a0, e0, _, w0⟩ := DataW.trod_int Tryd.underlying3 h0
    obtain ⟨a1, e1, _, w1⟩ := DataW.trod_int Tryd.underlying3 h1
    obtain ⟨a2, e2, _, w2⟩ := DataW.trod_int Tryd.underlying3 h2
    obtain ⟨a3, e3, _, w3⟩ := DataW.trod_int Tryd.underlying3 h3
    obtain ⟨a4, e4, _, w4⟩ := DataW.trod_int Tryd.underlying3 h4
    obtain ⟨a5, e5, _, w5⟩ := DataW.trod_int Tryd.underlying3 h5
    simp only [List.cons.injEq, and_true] at e0 e1 e2 e3 e4 e5
    subst e0 e1 e2 e3 e4 e5
    exact ⟨a0, a1, a2, a3, a4, a5, rfl, wf64 w0, wf64 w1, wf64 w2, wf64 w3, wf64 w4, wf64 w5⟩

set_option maxRecDepth 100000 in
theorem open_op {n : Nat} {cs : List Value} {x : DataW H × List MemPlace} (h : DataW.trod enc Tryd.prog W 0 (fun _ => true) true n 32 cs = some x) : ∃ k0 k1 k2 k3 k4 k5 k6 k7 k8 k9 k10, cs = [.int .i64 k0, .int .i64 k1, .int .i64 k2, .int .i64 k3, .int .i64 k4, .int .i64 k5, .int .i64 k6, .int .i64 k7, .int .i64 k8, .int .i64 k9, .int .i64 k10] ∧ I64 k0 ∧ I64 k1 ∧ I64 k2 ∧ I64 k3 ∧ I64 k4 ∧ I64 k5 ∧ I64 k6 ∧ I64 k7 ∧ I64 k8 ∧ I64 k9 ∧ I64 k10 := by
  obtain ⟨xs, k, _, _, hl, hlen, hx⟩ := DataW.trod_struct Tryd.underlying32 h
  rw [cellsOp] at hl
  match cs, hl, xs, hlen with
  | [c0, c1, c2, c3, c4, c5, c6, c7, c8, c9, c10], _, [x0, x1, x2, x3, x4, x5], _ =>
    have h0 : DataW.trod enc Tryd.prog W 0 (fun _ => true) true k 3 (([c0, c1, c2, c3, c4, c5, c6, c7, c8, c9, c10].drop 0).take (Tryd.prog.cellsOf 3)) = some x0 := hx 0 _ rfl
    have h1 : DataW.trod enc Tryd.prog W 0 (fun _ => true) true k 3 (([c0, c1, c2, c3, c4, c5, c6, c7, c8, c9, c10].drop 1).take (Tryd.prog.cellsOf 3)) = some x1 := hx 1 _ rfl
    have h2 : DataW.trod enc Tryd.prog W 0 (fun _ => true) true k 3 (([c0, c1, c2, c3, c4, c5, c6, c7, c8, c9, c10].drop 2).take (Tryd.prog.cellsOf 3)) = some x2 := hx 2 _ rfl
    have h3 : DataW.trod enc Tryd.prog W 0 (fun _ => true) true k 3 (([c0, c1, c2, c3, c4, c5, c6, c7, c8, c9, c10].drop 3).take (Tryd.prog.cellsOf 3)) = some x3 := hx 3 _ rfl
    have h4 : DataW.trod enc Tryd.prog W 0 (fun _ => true) true k 3 (([c0, c1, c2, c3, c4, c5, c6, c7, c8, c9, c10].drop 4).take (Tryd.prog.cellsOf 3)) = some x4 := hx 4 _ rfl
    have h5 : DataW.trod enc Tryd.prog W 0 (fun _ => true) true k 30 (([c0, c1, c2, c3, c4, c5, c6, c7, c8, c9, c10].drop 5).take (Tryd.prog.cellsOf 30)) = some x5 := hx 5 _ rfl
    simp only [cellsI1, cellsI6, List.drop_zero, List.drop_succ_cons, List.take_succ_cons, List.take_zero] at h0 h1 h2 h3 h4 h5
    obtain ⟨a0, e0, _, w0⟩ := DataW.trod_int Tryd.underlying3 h0
    obtain ⟨a1, e1, _, w1⟩ := DataW.trod_int Tryd.underlying3 h1
    obtain ⟨a2, e2, _, w2⟩ := DataW.trod_int Tryd.underlying3 h2
    obtain ⟨a3, e3, _, w3⟩ := DataW.trod_int Tryd.underlying3 h3
    obtain ⟨a4, e4, _, w4⟩ := DataW.trod_int Tryd.underlying3 h4
    obtain ⟨b0, b1, b2, b3, b4, b5, e5, r0, r1, r2, r3, r4, r5⟩ := open_six h5
    simp only [List.cons.injEq, and_true] at e0 e1 e2 e3 e4 e5
    obtain ⟨f0, f1, f2, f3, f4, f5⟩ := e5
    subst e0 e1 e2 e3 e4 f0 f1 f2 f3 f4 f5
    exact ⟨a0, a1, a2, a3, a4, b0, b1, b2, b3, b4, b5, rfl, wf64 w0, wf64 w1, wf64 w2, wf64 w3, wf64 w4, r0, r1, r2, r3, r4, r5⟩

set_option maxRecDepth 100000 in
theorem open_ops {a : Option Addr} {n c : Nat} (h : DataW.Trod enc Tryd.prog W 0 (fun _ => true) true 22 (.slice a n c) d p) : RdO W a n c := by
  obtain ⟨fuel, hf⟩ := h
  rcases open_slice Tryd.underlying22 hf with ⟨hcs, _⟩ | ⟨a, len, cap, mm, k, D, Pl, hcs, hb, hl, hm, hmm, _, hx⟩
  · simp [Value.cells] at hcs
    obtain ⟨rfl, rfl, rfl⟩ := hcs
    exact ⟨Nat.le_refl _, Nat.zero_le _, fun j hj => by omega⟩
  · simp [Value.cells] at hcs
    obtain ⟨rfl, rfl, rfl⟩ := hcs
    simp only [if_true] at hmm
    subst hmm
    rw [cellsOp] at hx
    refine ⟨hl, hm, fun j hj => ?_⟩
    obtain ⟨cs', h1, h2⟩ := hx j (by omega)
    obtain ⟨k0, k1, k2, k3, k4, k5, k6, k7, k8, k9, k10, rfl, hr⟩ := open_op h2
    obtain ⟨_, _, hcc⟩ := World.cells?_some h1
    obtain ⟨b, off, spot⟩ := a
    have q0 := hcc 0 (by omega)
    have q1 := hcc 1 (by omega)
    have q2 := hcc 2 (by omega)
    have q3 := hcc 3 (by omega)
    have q4 := hcc 4 (by omega)
    have q5 := hcc 5 (by omega)
    have q6 := hcc 6 (by omega)
    have q7 := hcc 7 (by omega)
    have q8 := hcc 8 (by omega)
    have q9 := hcc 9 (by omega)
    have q10 := hcc 10 (by omega)
    have hspot : spot = none := by
      obtain ⟨cs0, h10, h20⟩ := hx 0 (by omega)
      obtain ⟨_, _, _, _, _, _, _, _, _, _, _, rfl, _⟩ := open_op h20
      obtain ⟨_, _, hc0⟩ := World.cells?_some h10
      have z0 := hc0 0 (by omega)
      simp only [List.getElem?_cons_zero] at z0
      simpa [Addr.add] using World.cell?_spot z0
    subst hspot
    simp only [add_plain, List.getElem?_cons_zero, List.getElem?_cons_succ, Nat.add_zero] at q0 q1 q2 q3 q4 q5 q6 q7 q8 q9 q10
    exact ⟨b, off, k0, k1, k2, k3, k4, k5, k6, k7, k8, k9, k10, rfl, World.block_lt_of_cell? W _ q0, ⟨q0, q1, q2, q3, q4, q5, q6, q7, q8, q9, q10⟩, hr⟩
end Go.Proofs.YtnfenfleahennaaDoor
