/- A slice of law 18's calls (three numbers and two truths each), as it comes in: opened. -/
import Derived.Test.YtnlaegleekghmaaDoorShC
import Derived.Test.YtnlaegleekghmaaDoorLibA
import Derived.Test.YtnlaegleekghmaaDoorChecked
import Derived.Lib.SmallJoins
import Derived.ProofKit
import Derived.OpenShut
import Derived.ShutString
import Derived.ChangeOld
import Derived.SizedLaws
namespace Go.Proofs.YtnlaegleekghmaaDoor
open Go Go.ChangeShapes Go.WideShapes Go.ChangeAt Go.RowKit Go.Deep

/-- Each of n elements is three numbers and two truths. -/
structure RdO (w : World) (a : Option Addr) (n c : Nat) : Prop where
  le : n ≤ c
  max : c ≤ maxLen
  each : ∀ j, j < n → ∃ b off k0 k1 k2 t3 t4, a = some ⟨b, off, none⟩ ∧ b < w.heap.size ∧ (w.cell? ⟨b, off + j * 5, none⟩ = some (.int .i64 k0) ∧ w.cell? ⟨b, off + j * 5 + 1, none⟩ = some (.int .i64 k1) ∧ w.cell? ⟨b, off + j * 5 + 2, none⟩ = some (.int .i64 k2) ∧ w.cell? ⟨b, off + j * 5 + 3, none⟩ = some (.bool t3) ∧ w.cell? ⟨b, off + j * 5 + 4, none⟩ = some (.bool t4)) ∧ Bw k0 ∧ Bw k1 ∧ Bw k2
theorem wfBw {z : Int} (h : (Lit.int .i64 z).wf = true) : Bw z := by
  have : -9223372036854775808 ≤ z ∧ z ≤ 9223372036854775807 := by simpa [Lit.wf, IntKind.min, IntKind.max, IntKind.signed, IntKind.bits] using h
  exact this
theorem cellsOp18 : Tryd.prog.cellsOf 30 = 5 := by kernel_rfl
theorem cellsI18 : Tryd.prog.cellsOf 3 = 1 := by kernel_rfl
theorem cellsB18 : Tryd.prog.cellsOf 4 = 1 := by kernel_rfl

variable {H : Type} {enc : TypeId × Value → H} {W : World} {d : DataW H} {p : List MemPlace}
set_option maxRecDepth 100000 in
theorem open_op {n : Nat} {cs : List Value} {x : DataW H × List MemPlace} (h : DataW.trod enc Tryd.prog W 0 (fun _ => true) true n 30 cs = some x) : ∃ k0 k1 k2 t3 t4, cs = [.int .i64 k0, .int .i64 k1, .int .i64 k2, .bool t3, .bool t4] ∧ Bw k0 ∧ Bw k1 ∧ Bw k2 := by
  obtain ⟨xs, k, _, _, hl, hlen, hx⟩ := DataW.trod_struct Tryd.underlying30 h
  rw [cellsOp18] at hl
  match cs, hl, xs, hlen with
  | [c0, c1, c2, c3, c4], _, [x0, x1, x2, x3, x4], _ =>
    have h0 : DataW.trod enc Tryd.prog W 0 (fun _ => true) true k 3 (([c0, c1, c2, c3, c4].drop 0).take (Tryd.prog.cellsOf 3)) = some x0 := hx 0 _ rfl
    have h1 : DataW.trod enc Tryd.prog W 0 (fun _ => true) true k 3 (([c0, c1, c2, c3, c4].drop 1).take (Tryd.prog.cellsOf 3)) = some x1 := hx 1 _ rfl
    have h2 : DataW.trod enc Tryd.prog W 0 (fun _ => true) true k 3 (([c0, c1, c2, c3, c4].drop 2).take (Tryd.prog.cellsOf 3)) = some x2 := hx 2 _ rfl
    have h3 : DataW.trod enc Tryd.prog W 0 (fun _ => true) true k 4 (([c0, c1, c2, c3, c4].drop 3).take (Tryd.prog.cellsOf 4)) = some x3 := hx 3 _ rfl
    have h4 : DataW.trod enc Tryd.prog W 0 (fun _ => true) true k 4 (([c0, c1, c2, c3, c4].drop 4).take (Tryd.prog.cellsOf 4)) = some x4 := hx 4 _ rfl
    simp only [cellsI18, cellsB18, List.drop_zero, List.drop_succ_cons, List.take_succ_cons, List.take_zero] at h0 h1 h2 h3 h4
    obtain ⟨a0, e0, _, w0⟩ := DataW.trod_int Tryd.underlying3 h0
    obtain ⟨a1, e1, _, w1⟩ := DataW.trod_int Tryd.underlying3 h1
    obtain ⟨a2, e2, _, w2⟩ := DataW.trod_int Tryd.underlying3 h2
    obtain ⟨a3, e3, _⟩ := DataW.trod_bool Tryd.underlying4 h3
    obtain ⟨a4, e4, _⟩ := DataW.trod_bool Tryd.underlying4 h4
    simp only [List.cons.injEq, and_true] at e0 e1 e2 e3 e4
    subst e0 e1 e2 e3 e4
    exact ⟨a0, a1, a2, a3, a4, rfl, wfBw w0, wfBw w1, wfBw w2⟩

set_option maxRecDepth 100000 in
theorem open_ops {a : Option Addr} {n c : Nat} (h : DataW.Trod enc Tryd.prog W 0 (fun _ => true) true 22 (.slice a n c) d p) : RdO W a n c := by
  obtain ⟨fuel, hf⟩ := h
  rcases open_slice Tryd.underlying22 hf with ⟨hcs, _⟩ | ⟨a, len, cap, mm, k, D, Pl, hcs, hb, hl, hm, hmm, _, hx⟩
  · simp [Value.cells] at hcs
    obtain ⟨rfl, rfl, rfl⟩ := hcs
    exact ⟨Nat.le_refl _, Nat.zero_le _, fun j hj => by omega⟩
  · simp [Value.cells] at hcs
    obtain ⟨rfl, rfl, rfl⟩ := hcs
    simp only [if_true] at hmm
    subst hmm
    rw [cellsOp18] at hx
    refine ⟨hl, hm, fun j hj => ?_⟩
    obtain ⟨cs', h1, h2⟩ := hx j (by omega)
    obtain ⟨k0, k1, k2, t3, t4, rfl, hr⟩ := open_op h2
    obtain ⟨_, _, hcc⟩ := World.cells?_some h1
    obtain ⟨b, off, spot⟩ := a
    have q0 := hcc 0 (by omega)
    have q1 := hcc 1 (by omega)
    have q2 := hcc 2 (by omega)
    have q3 := hcc 3 (by omega)
    have q4 := hcc 4 (by omega)
    have hspot : spot = none := by
      obtain ⟨cs0, h10, h20⟩ := hx 0 (by omega)
      obtain ⟨_, _, _, _, _, rfl, _⟩ := open_op h20
      obtain ⟨_, _, hc0⟩ := World.cells?_some h10
      have z0 := hc0 0 (by omega)
      simp only [List.getElem?_cons_zero] at z0
      simpa [Addr.add] using World.cell?_spot z0
    subst hspot
    simp only [add_plain, List.getElem?_cons_zero, List.getElem?_cons_succ, Nat.add_zero] at q0 q1 q2 q3 q4
    exact ⟨b, off, k0, k1, k2, t3, t4, rfl, World.block_lt_of_cell? W _ q0, ⟨q0, q1, q2, q3, q4⟩, hr⟩
theorem RdO.on {w u : World} {a : Option Addr} {n c : Nat} (h : RdO w a n c) (hb : Below w.heap.size w u) : RdO u a n c :=
  ⟨h.le, h.max, fun j hj => by
    obtain ⟨b, off, k0, k1, k2, t3, t4, e, h1, ⟨q0, q1, q2, q3, q4⟩, hr⟩ := h.each j hj
    exact ⟨b, off, k0, k1, k2, t3, t4, e, Nat.lt_of_lt_of_le h1 hb.size, ⟨by rw [hb.cell h1]; exact q0, by rw [hb.cell h1]; exact q1, by rw [hb.cell h1]; exact q2, by rw [hb.cell h1]; exact q3, by rw [hb.cell h1]; exact q4⟩, hr⟩⟩
end Go.Proofs.YtnlaegleekghmaaDoor
