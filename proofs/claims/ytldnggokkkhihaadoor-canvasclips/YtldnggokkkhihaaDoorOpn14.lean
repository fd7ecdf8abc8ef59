/- A call of law 14 (five numbers, a colour, colours, rectangles), and a slice of such, as they come in: opened. -/
import Derived.Test.YtldnggokkkhihaaDoorLibA
import Derived.Test.YtldnggokkkhihaaDoorLibS
import Derived.Test.YtldnggokkkhihaaDoorRgnH
import Derived.Test.YtldnggokkkhihaaDoorPixA
import Derived.Test.YtldnggokkkhihaaDoorChecked
import Derived.Lib.SmallJoins
import Derived.ProofKit
import Derived.OpenShut
import Derived.ShutString
import Derived.ChangeOld
import Derived.SizedLaws
namespace Go.Proofs.YtldnggokkkhihaaDoor
open Go Go.ChangeShapes Go.WideShapes Go.ChangeAt Go.RowKit Go.Deep

/-- A call: its numbers, and what its slices hold. -/
structure Cl where
  k : Int
  x : Int
  y : Int
  s : Int
  t : Int
  v : Int
  a : Option Addr
  m : Nat
  c : Nat
  pix : List Int
  a' : Option Addr
  n : Nat
  c' : Nat
  l : List Rc

def Cl.cells (o : Cl) : List Value := [.int .i64 o.k, .int .i64 o.x, .int .i64 o.y, .int .i64 o.s, .int .i64 o.t, .int .u32 o.v, .slice o.a o.m o.c, .slice o.a' o.n o.c']

structure Cl.Ok (w : World) (o : Cl) : Prop where
  k : I64 o.k
  x : I64 o.x
  y : I64 o.y
  s : I64 o.s
  t : I64 o.t
  v : Col o.v
  pix : RdI .u32 w o.a o.m o.c o.pix
  clip : RdC w o.a' o.n o.c' o.l

/-- A slice of n calls. -/
structure RdO (w : World) (a : Option Addr) (n c : Nat) : Prop where
  le : n ≤ c
  max : c ≤ maxLen
  each : ∀ j, j < n → ∃ b off o, a = some ⟨b, off, none⟩ ∧ b < w.heap.size ∧ Cl.Ok w o ∧ ∀ i v, o.cells[i]? = some v → w.cell? ⟨b, off + j * 8 + i, none⟩ = some v

theorem i64_range {n : Int} (h : (Lit.int .i64 n).wf = true) : I64 n := by
  unfold I64
  simpa [Lit.wf, IntKind.min, IntKind.max, IntKind.signed, IntKind.bits] using h
theorem col_range {z : Int} (h : (Lit.int .u32 z).wf = true) : Col z := by
  simp [Lit.wf, IntKind.min, IntKind.max, IntKind.signed, IntKind.bits] at h
  unfold Col
  omega

theorem cellsOp : Tryd.prog.cellsOf 39 = 8 := by kernel_rfl

variable {H : Type} {enc : TypeId × Value → H} {W : World} {d : DataW H} {p : List MemPlace}

set_option maxRecDepth 100000 in
theorem open_cols {k : Nat} {c : Value} {x : DataW H × List MemPlace} (h : DataW.trod enc Tryd.prog W 0 (fun _ => true) true k 36 [c] = some x) : ∃ a m c' l, c = .slice a m c' ∧ RdI .u32 W a m c' l := by
  rcases open_ints Tryd.underlying36 Tryd.underlying35 (by kernel_rfl) h with ⟨hcs, _⟩ | ⟨y, l', c', zs, hcs, _, hl', hm', hz, hD, hcell, hwz⟩
  · simp only [List.cons.injEq, and_true] at hcs
    subst hcs
    exact ⟨none, 0, 0, [], rfl, RdI.nil _ W⟩
  · simp only [List.cons.injEq, and_true] at hcs
    subst hcs
    have hz1 : zs.length = c' := by simpa using hz
    exact ⟨some y, l', c', _, rfl, RdI.ofRow hl' hm' (by rw [hz1, Nat.mul_one]) hcell hwz⟩

set_option maxRecDepth 100000 in
theorem open_clip {k : Nat} {c : Value} {x : DataW H × List MemPlace} (h : DataW.trod enc Tryd.prog W 0 (fun _ => true) true k 37 [c] = some x) : ∃ a n c' l, c = .slice a n c' ∧ RdC W a n c' l := by
  have key : ∀ a n c', c = .slice a n c' → ∃ l, RdC W a n c' l := fun a n c' e => by
    subst e
    obtain ⟨l, hl⟩ := open_structs (m := 4) (P := Tryd.prog) (W := W) (enc := enc) (T := 37) (E := 44) Tryd.underlying37 Tryd.underlying44 rfl (by kernel_rfl) (by kernel_rfl) (a := a) (n := n) (c := c') (d := x.1) (p := x.2) ⟨k, by rw [show (x.1, x.2) = x from rfl]; exact h⟩
    exact ⟨_, rdc_of_rdn hl⟩
  rcases open_slice Tryd.underlying37 h with ⟨hcs, _⟩ | ⟨a, len, cap, mm, k', D, Pl, hcs, _⟩
  · simp only [List.cons.injEq, and_true] at hcs
    obtain ⟨l, hl⟩ := key _ _ _ hcs
    exact ⟨_, _, _, l, hcs, hl⟩
  · simp only [List.cons.injEq, and_true] at hcs
    obtain ⟨l, hl⟩ := key _ _ _ hcs
    exact ⟨_, _, _, l, hcs, hl⟩

set_option maxRecDepth 100000 in
theorem open_op {n : Nat} {cs : List Value} {x : DataW H × List MemPlace} (h : DataW.trod enc Tryd.prog W 0 (fun _ => true) true n 39 cs = some x) : ∃ o : Cl, cs = o.cells ∧ o.Ok W := by
  obtain ⟨xs, k, _, _, hl, hlen, hx⟩ := DataW.trod_struct Tryd.underlying39 h
  rw [cellsOp] at hl
  match cs, hl, xs, hlen with
  | [c0, c1, c2, c3, c4, c5, c6, c7], _, [x0, x1, x2, x3, x4, x5, x6, x7], _ =>
    have h0 : DataW.trod enc Tryd.prog W 0 (fun _ => true) true k 3 (([c0, c1, c2, c3, c4, c5, c6, c7].drop 0).take (Tryd.prog.cellsOf 3)) = some x0 := hx 0 _ rfl
    have h1 : DataW.trod enc Tryd.prog W 0 (fun _ => true) true k 3 (([c0, c1, c2, c3, c4, c5, c6, c7].drop 1).take (Tryd.prog.cellsOf 3)) = some x1 := hx 1 _ rfl
    have h2 : DataW.trod enc Tryd.prog W 0 (fun _ => true) true k 3 (([c0, c1, c2, c3, c4, c5, c6, c7].drop 2).take (Tryd.prog.cellsOf 3)) = some x2 := hx 2 _ rfl
    have h3 : DataW.trod enc Tryd.prog W 0 (fun _ => true) true k 3 (([c0, c1, c2, c3, c4, c5, c6, c7].drop 3).take (Tryd.prog.cellsOf 3)) = some x3 := hx 3 _ rfl
    have h4 : DataW.trod enc Tryd.prog W 0 (fun _ => true) true k 3 (([c0, c1, c2, c3, c4, c5, c6, c7].drop 4).take (Tryd.prog.cellsOf 3)) = some x4 := hx 4 _ rfl
    have h5 : DataW.trod enc Tryd.prog W 0 (fun _ => true) true k 35 (([c0, c1, c2, c3, c4, c5, c6, c7].drop 5).take (Tryd.prog.cellsOf 35)) = some x5 := hx 5 _ rfl
    have h6 : DataW.trod enc Tryd.prog W 0 (fun _ => true) true k 36 (([c0, c1, c2, c3, c4, c5, c6, c7].drop 6).take (Tryd.prog.cellsOf 36)) = some x6 := hx 6 _ rfl
    have h7 : DataW.trod enc Tryd.prog W 0 (fun _ => true) true k 37 (([c0, c1, c2, c3, c4, c5, c6, c7].drop 7).take (Tryd.prog.cellsOf 37)) = some x7 := hx 7 _ rfl
    have k3 : Tryd.prog.cellsOf 3 = 1 := by kernel_rfl
    have k5 : Tryd.prog.cellsOf 35 = 1 := by kernel_rfl
    have k6 : Tryd.prog.cellsOf 36 = 1 := by kernel_rfl
    have k7 : Tryd.prog.cellsOf 37 = 1 := by kernel_rfl
    simp only [k3, k5, k6, k7, List.drop_zero, List.drop_succ_cons, List.take_succ_cons, List.take_zero] at h0 h1 h2 h3 h4 h5 h6 h7
    obtain ⟨a0, e0, _, w0⟩ := DataW.trod_int Tryd.underlying3 h0
    obtain ⟨a1, e1, _, w1⟩ := DataW.trod_int Tryd.underlying3 h1
    obtain ⟨a2, e2, _, w2⟩ := DataW.trod_int Tryd.underlying3 h2
    obtain ⟨a3, e3, _, w3⟩ := DataW.trod_int Tryd.underlying3 h3
    obtain ⟨a4, e4, _, w4⟩ := DataW.trod_int Tryd.underlying3 h4
    obtain ⟨a5, e5, _, w5⟩ := DataW.trod_int Tryd.underlying35 h5
    simp only [List.cons.injEq, and_true] at e0 e1 e2 e3 e4 e5
    subst e0 e1 e2 e3 e4 e5
    obtain ⟨a, m, c, pix, rfl, hp⟩ := open_cols h6
    obtain ⟨a', n', c', l, rfl, hc⟩ := open_clip h7
    exact ⟨⟨a0, a1, a2, a3, a4, a5, a, m, c, pix, a', n', c', l⟩, rfl, ⟨i64_range w0, i64_range w1, i64_range w2, i64_range w3, i64_range w4, col_range w5, hp, hc⟩⟩

set_option maxRecDepth 100000 in
theorem open_opv {r : Reach} {b0 : Nat} {v : Value} (hv : Value.okWide Tryd.prog W r b0 39 v) (h : DataW.Trod enc Tryd.prog W 0 (fun _ => true) true 39 v d p) : ∃ o : Cl, v = .agg o.cells.toArray ∧ o.Ok W := by
  obtain ⟨cs, rfl, _⟩ := okWide_struct Tryd.underlying39 hv
  obtain ⟨fuel, hf'⟩ := h
  obtain ⟨o, hcs, hw⟩ := open_op hf'
  refine ⟨o, ?_, hw⟩
  rw [← hcs]
  simp [Value.cells]

set_option maxRecDepth 100000 in
theorem open_ops {a : Option Addr} {n c : Nat} (h : DataW.Trod enc Tryd.prog W 0 (fun _ => true) true 22 (.slice a n c) d p) : RdO W a n c := by
  obtain ⟨fuel, hf⟩ := h
  rcases open_slice Tryd.underlying22 hf with ⟨hcs, _⟩ | ⟨a, len, cap, mm, k, D, Pl, hcs, hb, hl, hm, hmm, _, hx⟩
  · simp [Value.cells] at hcs
    obtain ⟨rfl, rfl, rfl⟩ := hcs
    exact ⟨Nat.le_refl _, Nat.zero_le _, fun j hj => by omega⟩
  · simp [Value.cells] at hcs
    obtain ⟨rfl, rfl, rfl⟩ := hcs
    simp only [if_true] at hmm
    subst hmm
    rw [cellsOp] at hx
    refine ⟨hl, hm, fun j hj => ?_⟩
    obtain ⟨cs', h1, h2⟩ := hx j (by omega)
    obtain ⟨o, rfl, ho⟩ := open_op h2
    obtain ⟨_, _, hcc⟩ := World.cells?_some h1
    obtain ⟨b, off, spot⟩ := a
    have hspot : spot = none := by
      obtain ⟨cs0, h10, h20⟩ := hx 0 (by omega)
      obtain ⟨_, rfl, _⟩ := open_op h20
      obtain ⟨_, _, hc0⟩ := World.cells?_some h10
      have z0 := hc0 0 (by omega)
      simp only [Cl.cells, List.getElem?_cons_zero] at z0
      simpa [Addr.add] using World.cell?_spot z0
    subst hspot
    have q : ∀ i v, o.cells[i]? = some v → W.cell? ⟨b, off + j * 8 + i, none⟩ = some v := fun i v hi => by
      have hlt : i < 8 := (List.getElem?_eq_some_iff.1 hi).1
      have := hcc i hlt
      rw [hi] at this
      simp only [add_plain] at this
      exact this
    exact ⟨b, off, o, rfl, World.block_lt_of_cell? W _ (q 0 _ rfl), ho, q⟩
end Go.Proofs.YtldnggokkkhihaaDoor
