/- A slice of calls (two numbers and bytes each), as it comes in: opened. -/
import Derived.Test.YtmcbbpcbebbjdaaDoorLibA
import Derived.Test.YtmcbbpcbebbjdaaDoorChecked
import Derived.Lib.SmallJoins
import Derived.ProofKit
import Derived.OpenShut
import Derived.ShutString
import Derived.ChangeOld
import Derived.SizedLaws
namespace Go.Proofs.YtmcbbpcbebbjdaaDoor
open Go Go.ChangeShapes Go.WideShapes Go.ChangeAt Go.RowKit Go.Deep

/-- Each of n elements is two numbers and a slice of bytes. -/
structure RdO (w : World) (a : Option Addr) (n c : Nat) : Prop where
  le : n ≤ c
  max : c ≤ maxLen
  each : ∀ j, j < n → ∃ b off k0 k1 a' m c' l, a = some ⟨b, off, none⟩ ∧ b < w.heap.size ∧ w.cell? ⟨b, off + j * 3, none⟩ = some (.int .i64 k0) ∧ w.cell? ⟨b, off + j * 3 + 1, none⟩ = some (.int .i64 k1) ∧ w.cell? ⟨b, off + j * 3 + 2, none⟩ = some (.slice a' m c') ∧ Rd w a' m c' l ∧
    (-9223372036854775808 ≤ k0 ∧ k0 ≤ 9223372036854775807) ∧ (-9223372036854775808 ≤ k1 ∧ k1 ≤ 9223372036854775807)

theorem i64_range {n : Int} (h : (Lit.int .i64 n).wf = true) : -9223372036854775808 ≤ n ∧ n ≤ 9223372036854775807 := by
  simpa [Lit.wf, IntKind.min, IntKind.max, IntKind.signed, IntKind.bits] using h

theorem cellsOp : Tryd.prog.cellsOf 29 = 3 := by kernel_rfl

variable {H : Type} {enc : TypeId × Value → H} {W : World} {d : DataW H} {p : List MemPlace}

set_option maxRecDepth 100000 in
theorem open_op {n : Nat} {cs : List Value} {x : DataW H × List MemPlace} (h : DataW.trod enc Tryd.prog W 0 (fun _ => true) true n 29 cs = some x) : ∃ k0 k1 a m c l, cs = [.int .i64 k0, .int .i64 k1, .slice a m c] ∧ Rd W a m c l ∧
    (-9223372036854775808 ≤ k0 ∧ k0 ≤ 9223372036854775807) ∧ (-9223372036854775808 ≤ k1 ∧ k1 ≤ 9223372036854775807) := by
  obtain ⟨xs, k, _, _, hl, hlen, hx⟩ := DataW.trod_struct Tryd.underlying29 h
  rw [cellsOp] at hl
  match cs, hl, xs, hlen with
  | [c0, c1, c4], _, [x0, x1, x4], _ =>
    have h0 : DataW.trod enc Tryd.prog W 0 (fun _ => true) true k 3 (([c0, c1, c4].drop 0).take (Tryd.prog.cellsOf 3)) = some x0 := hx 0 _ rfl
    have h1 : DataW.trod enc Tryd.prog W 0 (fun _ => true) true k 3 (([c0, c1, c4].drop 1).take (Tryd.prog.cellsOf 3)) = some x1 := hx 1 _ rfl
    have h4 : DataW.trod enc Tryd.prog W 0 (fun _ => true) true k 27 (([c0, c1, c4].drop 2).take (Tryd.prog.cellsOf 27)) = some x4 := hx 2 _ rfl
    have k3 : Tryd.prog.cellsOf 3 = 1 := by kernel_rfl
    have k9 : Tryd.prog.cellsOf 27 = 1 := by kernel_rfl
    simp only [k3, k9, List.drop_zero, List.drop_succ_cons, List.take_succ_cons, List.take_zero] at h0 h1 h4
    obtain ⟨a0, e0, _, w0⟩ := DataW.trod_int Tryd.underlying3 h0
    obtain ⟨a1, e1, _, w1⟩ := DataW.trod_int Tryd.underlying3 h1
    simp only [List.cons.injEq, and_true] at e0 e1
    subst e0 e1
    rcases open_ints Tryd.underlying27 Tryd.underlying5 (by kernel_rfl) h4 with ⟨hcs, _⟩ | ⟨y, l', c', zs, hcs, _, hl', hm', hz, hD, hcell, hwz⟩
    · simp only [List.cons.injEq, and_true] at hcs
      subst hcs
      exact ⟨a0, a1, none, 0, 0, [], rfl, Rd.nil W, i64_range w0, i64_range w1⟩
    · simp only [List.cons.injEq, and_true] at hcs
      subst hcs
      have hz1 : zs.length = c' := by simpa using hz
      obtain ⟨b, hb, _⟩ := (RdI.ofRow hl' hm' (by rw [hz1, Nat.mul_one]) hcell hwz).bytes
      exact ⟨a0, a1, some y, l', c', b, rfl, hb, i64_range w0, i64_range w1⟩

set_option maxRecDepth 100000 in
theorem open_ops {a : Option Addr} {n c : Nat} (h : DataW.Trod enc Tryd.prog W 0 (fun _ => true) true 22 (.slice a n c) d p) : RdO W a n c := by
  obtain ⟨fuel, hf⟩ := h
  rcases open_slice Tryd.underlying22 hf with ⟨hcs, _⟩ | ⟨a, len, cap, mm, k, D, Pl, hcs, hb, hl, hm, hmm, _, hx⟩
  · simp [Value.cells] at hcs
    obtain ⟨rfl, rfl, rfl⟩ := hcs
    exact ⟨Nat.le_refl _, Nat.zero_le _, fun j hj => by omega⟩
  · simp [Value.cells] at hcs
    obtain ⟨rfl, rfl, rfl⟩ := hcs
    simp only [if_true] at hmm
    subst hmm
    rw [cellsOp] at hx
    refine ⟨hl, hm, fun j hj => ?_⟩
    obtain ⟨cs', h1, h2⟩ := hx j (by omega)
    obtain ⟨k0, k1, a', m, c', l, rfl, hr, b0, b1⟩ := open_op h2
    obtain ⟨_, _, hcc⟩ := World.cells?_some h1
    obtain ⟨b, off, spot⟩ := a
    have q0 := hcc 0 (by omega)
    have q1 := hcc 1 (by omega)
    have q2 := hcc 2 (by omega)
    have hspot : spot = none := by
      obtain ⟨cs0, h10, h20⟩ := hx 0 (by omega)
      obtain ⟨_, _, _, _, _, _, rfl, _⟩ := open_op h20
      obtain ⟨_, _, hc0⟩ := World.cells?_some h10
      have z0 := hc0 0 (by omega)
      simp only [List.getElem?_cons_zero] at z0
      simpa [Addr.add] using World.cell?_spot z0
    subst hspot
    simp only [add_plain, List.getElem?_cons_zero, List.getElem?_cons_succ, Nat.add_zero] at q0 q1 q2
    exact ⟨b, off, k0, k1, a', m, c', l, rfl, World.block_lt_of_cell? W _ q0, q0, q1, q2, hr, b0, b1⟩
end Go.Proofs.YtmcbbpcbebbjdaaDoor
