/- Slices of slices of surfaces, as they come in: opened. -/
import Derived.Test.YtegmolmjoiklpaaSeJ
import Derived.Lib.SmallJoins
import Derived.ProofKit
import Derived.OpenShut
import Derived.ShutString
import Derived.ChangeOld
import Derived.SizedLaws
namespace Go.Proofs.Ytegmolmjoiklpaa
open Go Go.ChangeShapes Go.WideShapes Go.ChangeAt Go.RowKit Go.Deep

/-- A list of surfaces, and where it lies. -/
structure Rw where
  a : Option Addr
  n : Nat
  c : Nat
  l : List Ht
instance : Inhabited Ht := ⟨⟨0, 0, 0, 0, 0, false, none, 0, 0, []⟩⟩
instance : Inhabited Rw := ⟨⟨none, 0, 0, []⟩⟩
/-- A slice whose first n elements are such lists. -/
structure RdR (w : World) (a : Option Addr) (n c : Nat) (L : List Rw) : Prop where
  len : L.length = n
  le : n ≤ c
  max : c ≤ maxLen
  hnil : a = none → c = 0
  pl : 0 < n → ∃ b off, a = some ⟨b, off, none⟩ ∧ b < w.heap.size ∧ ∀ (j : Nat) r, L[j]? = some r → w.cell? ⟨b, off + j, none⟩ = some (.slice r.a r.n r.c)
  rd : ∀ r ∈ L, RdH w r.a r.n r.c r.l
theorem RdR.on {w u : World} {a : Option Addr} {n c : Nat} {L : List Rw} (h : RdR w a n c L) (hb : RowKit.Below w.heap.size w u) : RdR u a n c L :=
  ⟨h.len, h.le, h.max, h.hnil, fun hn => by
    obtain ⟨b, off, e, h1, h2⟩ := h.pl hn
    exact ⟨b, off, e, Nat.lt_of_lt_of_le h1 hb.size, fun j r hr => by rw [hb.cell h1]; exact h2 j r hr⟩, fun r hr => (h.rd r hr).on hb⟩
theorem RdR.small {w : World} {a : Option Addr} {n c : Nat} {L : List Rw} (h : RdR w a n c L) : n ≤ 9223372036854775807 ∧ c ≤ 9223372036854775807 := by
  have h1 := h.le
  have h2 := h.max
  simp only [maxLen] at h2
  omega
theorem RdR.at_ {w : World} {a : Option Addr} {n c : Nat} {L : List Rw} (h : RdR w a n c L) {j : Nat} (hj : j < n) : ∃ b off r, a = some ⟨b, off, none⟩ ∧ b < w.heap.size ∧ L[j]? = some r ∧ RdH w r.a r.n r.c r.l ∧ w.cell? ⟨b, off + j, none⟩ = some (.slice r.a r.n r.c) := by
  have hl := h.len
  obtain ⟨b, off, e, h1, h2⟩ := h.pl (by omega)
  have hr : L[j]? = some L[j] := List.getElem?_eq_getElem (by omega)
  exact ⟨b, off, _, e, h1, hr, h.rd _ (List.mem_of_getElem? hr), h2 j _ hr⟩

theorem cellsHit : Try.prog.cellsOf 66 = 7 := by kernel_rfl
variable {H : Type} {enc : TypeId × Value → H} {W : World} {d : DataW H} {p : List MemPlace}

set_option maxRecDepth 100000 in
theorem open_rcs {k : Nat} {c : Value} {x : DataW H × List MemPlace} (h : DataW.trod enc Try.prog W 0 (fun _ => true) true k 57 [c] = some x) : ∃ a n c' l, c = .slice a n c' ∧ RdN 4 W a n c' l := by
  have key : ∀ a n c', c = .slice a n c' → ∃ a n c' l, c = .slice a n c' ∧ RdN 4 W a n c' l := fun a n c' e => by
    subst e
    obtain ⟨l, hl⟩ := open_structs (m := 4) (P := Try.prog) (W := W) (enc := enc) (T := 57) (E := 59) Try.underlying57 Try.underlying59 rfl (by kernel_rfl) (by kernel_rfl) (a := a) (n := n) (c := c') (d := x.1) (p := x.2) ⟨k, by rw [show (x.1, x.2) = x from rfl]; exact h⟩
    exact ⟨a, n, c', l, rfl, hl⟩
  rcases open_slice Try.underlying57 h with ⟨hcs, _⟩ | ⟨a, len, cap, mm, k', D, Pl, hcs, _⟩
  · simp only [List.cons.injEq, and_true] at hcs
    exact key _ _ _ hcs
  · simp only [List.cons.injEq, and_true] at hcs
    exact key _ _ _ hcs

set_option maxRecDepth 100000 in
theorem open_hit {n : Nat} {cs : List Value} {x : DataW H × List MemPlace} (h : DataW.trod enc Try.prog W 0 (fun _ => true) true n 66 cs = some x) : ∃ o : Ht, cs = (htv o).toList ∧ RdM 4 W o.a o.n o.c o.l ∧ o.Ok := by
  obtain ⟨xs, k, _, _, hl, hlen, hx⟩ := DataW.trod_struct Try.underlying66 h
  rw [cellsHit] at hl
  match cs, hl, xs, hlen with
  | [c0, c1, c2, c3, c4, c5, c6], _, [x0, x1, x2, x3, x4, x5, x6], _ =>
    have h0 : DataW.trod enc Try.prog W 0 (fun _ => true) true k 3 (([c0, c1, c2, c3, c4, c5, c6].drop 0).take (Try.prog.cellsOf 3)) = some x0 := hx 0 _ rfl
    have h1 : DataW.trod enc Try.prog W 0 (fun _ => true) true k 3 (([c0, c1, c2, c3, c4, c5, c6].drop 1).take (Try.prog.cellsOf 3)) = some x1 := hx 1 _ rfl
    have h2 : DataW.trod enc Try.prog W 0 (fun _ => true) true k 3 (([c0, c1, c2, c3, c4, c5, c6].drop 2).take (Try.prog.cellsOf 3)) = some x2 := hx 2 _ rfl
    have h3 : DataW.trod enc Try.prog W 0 (fun _ => true) true k 3 (([c0, c1, c2, c3, c4, c5, c6].drop 3).take (Try.prog.cellsOf 3)) = some x3 := hx 3 _ rfl
    have h4 : DataW.trod enc Try.prog W 0 (fun _ => true) true k 3 (([c0, c1, c2, c3, c4, c5, c6].drop 4).take (Try.prog.cellsOf 3)) = some x4 := hx 4 _ rfl
    have h5 : DataW.trod enc Try.prog W 0 (fun _ => true) true k 4 (([c0, c1, c2, c3, c4, c5, c6].drop 5).take (Try.prog.cellsOf 4)) = some x5 := hx 5 _ rfl
    have h6 : DataW.trod enc Try.prog W 0 (fun _ => true) true k 57 (([c0, c1, c2, c3, c4, c5, c6].drop 6).take (Try.prog.cellsOf 57)) = some x6 := hx 6 _ rfl
    have k0 : Try.prog.cellsOf 3 = 1 := by kernel_rfl
    have k1 : Try.prog.cellsOf 4 = 1 := by kernel_rfl
    have k2 : Try.prog.cellsOf 57 = 1 := by kernel_rfl
    simp only [k0, k1, k2, List.drop_zero, List.drop_succ_cons, List.take_succ_cons, List.take_zero] at h0 h1 h2 h3 h4 h5 h6
    obtain ⟨a0, e0, _, w0⟩ := DataW.trod_int Try.underlying3 h0
    obtain ⟨a1, e1, _, w1⟩ := DataW.trod_int Try.underlying3 h1
    obtain ⟨a2, e2, _, w2⟩ := DataW.trod_int Try.underlying3 h2
    obtain ⟨a3, e3, _, w3⟩ := DataW.trod_int Try.underlying3 h3
    obtain ⟨a4, e4, _, w4⟩ := DataW.trod_int Try.underlying3 h4
    obtain ⟨a5, e5, _⟩ := DataW.trod_bool Try.underlying4 h5
    simp only [List.cons.injEq, and_true] at e0 e1 e2 e3 e4 e5
    subst e0 e1 e2 e3 e4 e5
    obtain ⟨ra, rn, rc, rl, rfl, r⟩ := open_rcs h6
    exact ⟨⟨a0, a1, a2, a3, a4, a5, ra, rn, rc, rl⟩, rfl, rdm_of_rdn (by omega) r, ⟨wf64 w0, wf64 w1, wf64 w2, wf64 w3, wf64 w4, fun y hy z hz => wf64 (r.wf y hy z hz)⟩⟩

set_option maxRecDepth 100000 in
theorem open_hits {k : Nat} {c : Value} {x : DataW H × List MemPlace} (h : DataW.trod enc Try.prog W 0 (fun _ => true) true k 41 [c] = some x) : ∃ r : Rw, c = .slice r.a r.n r.c ∧ RdH W r.a r.n r.c r.l := by
  rcases open_slice Try.underlying41 h with ⟨hcs, _⟩ | ⟨a, len, cap, mm, k', D, Pl, hcs, hb, hl, hm, hmm, _, hx⟩
  · simp only [List.cons.injEq, and_true] at hcs
    exact ⟨⟨none, 0, 0, []⟩, hcs, RdH.nil W⟩
  · simp only [List.cons.injEq, and_true] at hcs
    simp only [if_true] at hmm
    subst hmm
    rw [cellsHit] at hx
    rcases Nat.eq_zero_or_pos len with h0 | h0
    · exact ⟨⟨some a, len, mm, []⟩, hcs, ⟨h0.symm, hl, hm, (fun h => by cases h), (fun h => absurd (show 0 < len from h) (by omega)), by simp, by simp⟩⟩
    · obtain ⟨b, off, spot⟩ := a
      have hspot : spot = none := by
        obtain ⟨cs0, h10, h20⟩ := hx 0 (by omega)
        obtain ⟨o0, rfl, _⟩ := open_hit h20
        obtain ⟨_, _, hc0⟩ := World.cells?_some h10
        have z0 := hc0 0 (by omega)
        simp only [htv, List.getElem?_cons_zero] at z0
        simpa [Addr.add] using World.cell?_spot z0
      subst hspot
      have each : ∀ j, j < len → ∃ o : Ht, (b < W.heap.size ∧ ∀ i, i < 7 → W.cell? ⟨b, off + j * 7 + i, none⟩ = (htv o).toList[i]?) ∧ RdM 4 W o.a o.n o.c o.l ∧ o.Ok := fun j hj => by
        obtain ⟨cs', h1, h2⟩ := hx j (by omega)
        obtain ⟨o, rfl, hr, hok⟩ := open_hit h2
        obtain ⟨_, _, hcc⟩ := World.cells?_some h1
        have q0 : W.cell? ⟨b, off + j * 7 + 0, none⟩ = (htv o).toList[0]? := by simpa only [add_plain] using hcc 0 (by omega)
        exact ⟨o, ⟨World.block_lt_of_cell? W _ q0, fun i hi => by simpa only [add_plain] using hcc i hi⟩, hr, hok⟩
      obtain ⟨f, hf⟩ := choose_lt (α := Ht) each
      have hget : ∀ (j : Nat) o, ((List.range len).map f)[j]? = some o → j < len ∧ o = f j := fun j o hj => by
        have hlt : j < len := by simpa using (List.getElem?_eq_some_iff.1 hj).1
        rw [List.getElem?_map, List.getElem?_range hlt] at hj
        exact ⟨hlt, by simpa using hj.symm⟩
      refine ⟨⟨some ⟨b, off, none⟩, len, mm, (List.range len).map f⟩, hcs, ⟨by simp, hl, hm, (fun h => by cases h), fun _ => ⟨b, off, rfl, (hf 0 h0).1.1, fun j o hj => ?_⟩, fun o ho => ?_, fun o ho => ?_⟩⟩
      · obtain ⟨hlt, rfl⟩ := hget j o hj
        have hc := (hf j hlt).1.2
        exact ⟨by have := hc 0 (by omega); rw [Nat.add_zero] at this; exact this, hc 1 (by omega), hc 2 (by omega), hc 3 (by omega), hc 4 (by omega), hc 5 (by omega), hc 6 (by omega)⟩
      · obtain ⟨j, hj, rfl⟩ := List.mem_map.1 ho
        exact (hf j (List.mem_range.1 hj)).2.1
      · obtain ⟨j, hj, rfl⟩ := List.mem_map.1 ho
        exact (hf j (List.mem_range.1 hj)).2.2

set_option maxRecDepth 100000 in
/-- [][]Hit. -/
theorem open_hitrows {a : Option Addr} {n c : Nat} (h : DataW.Trod enc Try.prog W 0 (fun _ => true) true 22 (.slice a n c) d p) : ∃ L, RdR W a n c L := by
  obtain ⟨fuel, hf⟩ := h
  rcases open_slice1 Try.underlying22 (by kernel_rfl) hf with ⟨hcs, _⟩ | ⟨x, len, cap, m, k, V, D, Pl, hcs, hb, hl, hm, hmm, hx, hV⟩
  · simp [Value.cells] at hcs
    obtain ⟨rfl, rfl, rfl⟩ := hcs
    exact ⟨[], rfl, Nat.le_refl _, Nat.zero_le _, fun _ => rfl, fun h => absurd h (by omega), by simp⟩
  · simp [Value.cells] at hcs
    obtain ⟨rfl, rfl, rfl⟩ := hcs
    simp only [Prod.mk.injEq] at hx
    obtain ⟨rfl, _⟩ := hx
    simp only [if_true] at hmm
    subst hmm
    have each : ∀ i, i < n → ∃ r : Rw, W.cell? (x.add i) = some (.slice r.a r.n r.c) ∧ RdH W r.a r.n r.c r.l := fun i hi => by
      obtain ⟨h1, h2⟩ := hV i (by omega)
      obtain ⟨r, hr, hh⟩ := open_hits h2
      rw [hr] at h1
      exact ⟨r, h1, hh⟩
    obtain ⟨f, hfn⟩ := choose_lt (α := Rw) each
    rcases Nat.eq_zero_or_pos n with h0 | h0
    · subst h0
      exact ⟨[], rfl, hl, hm, (fun h => by cases h), fun h => absurd h (by omega), by simp⟩
    · obtain ⟨b, off, spot⟩ := x
      have hspot : spot = none := by simpa [Addr.add] using World.cell?_spot (hfn 0 h0).1
      subst hspot
      have q0 := (hfn 0 h0).1
      rw [Go.WideShapes.add_plain] at q0
      refine ⟨(List.range n).map f, by simp, hl, hm, (fun h => by cases h), fun _ => ⟨b, off, rfl, World.block_lt_of_cell? W _ q0, fun j r hj => ?_⟩, fun r hr => ?_⟩
      · have hlt : j < n := by simpa using (List.getElem?_eq_some_iff.1 hj).1
        rw [List.getElem?_map, List.getElem?_range hlt] at hj
        cases hj
        have := (hfn j hlt).1
        rwa [Go.WideShapes.add_plain] at this
      · obtain ⟨j, hj, rfl⟩ := List.mem_map.1 hr
        exact (hfn j (List.mem_range.1 hj)).2
end Go.Proofs.Ytegmolmjoiklpaa
