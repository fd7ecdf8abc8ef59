/- A slice of the document's damaged surfaces, as it comes in: opened. -/
import Derived.Test.YtlkodgmnhphfcaaRpC
import Derived.Test.YtlkodgmnhphfcaaLibS
import Derived.Test.YtlkodgmnhphfcaaChecked
import Derived.Lib.SmallJoins
import Derived.ProofKit
import Derived.OpenShut
import Derived.ShutString
import Derived.ChangeOld
import Derived.SizedLaws
namespace Go.Proofs.Ytlkodgmnhphfcaa
open Go Go.ChangeShapes Go.WideShapes Go.ChangeAt Go.RowKit Go.Deep

theorem i64_of24 {n : Int} (h : (Lit.int .i64 n).wf = true) : I64 n := by
  unfold I64
  simpa [Lit.wf, IntKind.min, IntKind.max, IntKind.signed, IntKind.bits] using h

theorem cellsDt : Try.prog.cellsOf 43 = 2 := by kernel_rfl

variable {H : Type} {enc : TypeId × Value → H} {W : World} {d : DataW H} {p : List MemPlace}

set_option maxRecDepth 100000 in
theorem open_rcs {k : Nat} {c : Value} {x : DataW H × List MemPlace} (h : DataW.trod enc Try.prog W 0 (fun _ => true) true k 30 [c] = some x) : ∃ a m c' l, c = .slice a m c' ∧ RdC W a m c' l := by
  rcases open_slice Try.underlying30 h with ⟨hcs, _⟩ | ⟨a, len, cap, mm, k', D, Pl, hcs, _⟩
  · simp only [List.cons.injEq, and_true] at hcs
    subst hcs
    exact ⟨none, 0, 0, [], rfl, RdC.nil W⟩
  · simp only [List.cons.injEq, and_true] at hcs
    subst hcs
    obtain ⟨l, hl⟩ := open_structs (m := 4) Try.underlying30 Try.underlying36 rfl (by kernel_rfl) (by kernel_rfl) (W := W) (enc := enc) ⟨k, h⟩
    exact ⟨_, _, _, _, rfl, rdc_of_rdn hl⟩

set_option maxRecDepth 100000 in
theorem open_dt {n : Nat} {cs : List Value} {x : DataW H × List MemPlace} (h : DataW.trod enc Try.prog W 0 (fun _ => true) true n 43 cs = some x) : ∃ g : Dv, cs = (dvv g).toList ∧ DOk W g := by
  obtain ⟨xs, k, _, _, hl, hlen, hx⟩ := DataW.trod_struct Try.underlying43 h
  rw [cellsDt] at hl
  match cs, hl, xs, hlen with
  | [c0, c1], _, [x0, x1], _ =>
    have h0 : DataW.trod enc Try.prog W 0 (fun _ => true) true k 3 (([c0, c1].drop 0).take (Try.prog.cellsOf 3)) = some x0 := hx 0 _ rfl
    have h1 : DataW.trod enc Try.prog W 0 (fun _ => true) true k 30 (([c0, c1].drop 1).take (Try.prog.cellsOf 30)) = some x1 := hx 1 _ rfl
    have k3 : Try.prog.cellsOf 3 = 1 := by kernel_rfl
    have k6 : Try.prog.cellsOf 30 = 1 := by kernel_rfl
    simp only [k3, k6, List.drop_zero, List.drop_succ_cons, List.take_succ_cons, List.take_zero] at h0 h1
    obtain ⟨a0, e0, _, w0⟩ := DataW.trod_int Try.underlying3 h0
    simp only [List.cons.injEq, and_true] at e0
    subst e0
    obtain ⟨a, m, c, l, rfl, hp⟩ := open_rcs h1
    exact ⟨⟨a0, a, m, c, l⟩, rfl, ⟨i64_of24 w0, hp⟩⟩

set_option maxRecDepth 100000 in
theorem open_dirts {a : Option Addr} {n c : Nat} (h : DataW.Trod enc Try.prog W 0 (fun _ => true) true 23 (.slice a n c) d p) : ∃ ds, RdD W a n c ds := by
  obtain ⟨fuel, hf⟩ := h
  rcases open_slice Try.underlying23 hf with ⟨hcs, _⟩ | ⟨a, len, cap, mm, k, D, Pl, hcs, hb, hl, hm, hmm, _, hx⟩
  · simp [Value.cells] at hcs
    obtain ⟨rfl, rfl, rfl⟩ := hcs
    exact ⟨[], RdD.nil W⟩
  · simp [Value.cells] at hcs
    obtain ⟨rfl, rfl, rfl⟩ := hcs
    simp only [if_true] at hmm
    subst hmm
    rw [cellsDt] at hx
    have each : ∀ i, i < n → ∃ g : Dv, DOk W g ∧ ∀ q v, (dvv g)[q]? = some v → W.cell? (a.add (i * 2 + q)) = some v := fun i hi => by
      obtain ⟨cs', h1, h2⟩ := hx i (by omega)
      obtain ⟨g, rfl, hg⟩ := open_dt h2
      refine ⟨g, hg, fun q v hq => ?_⟩
      obtain ⟨_, _, hcc⟩ := World.cells?_some h1
      have hlt : q < 2 := by
        have := (Array.getElem?_eq_some_iff.1 hq).1
        simpa [dvv] using this
      have := hcc q hlt
      rw [Array.getElem?_toList, hq, add_add] at this
      exact this
    haveI : Inhabited Dv := ⟨dzz⟩
    obtain ⟨f, hfn⟩ := choose_lt (α := Dv) each
    by_cases hn : n = 0
    · subst hn
      exact ⟨[], rfl, hl, hm, (fun h => by cases h), fun h => absurd h (by omega), by simp⟩
    obtain ⟨b, off, spot⟩ := a
    have hspot : spot = none := by
      have z0 := (hfn 0 (by omega)).2 0 _ rfl
      simpa [Addr.add] using World.cell?_spot z0
    subst hspot
    have q0 := (hfn 0 (by omega)).2 0 _ rfl
    refine ⟨(List.range n).map f, by simp, hl, hm, (fun h => by cases h), fun _ => ⟨b, off, rfl, ?_, fun j g hj i v hv => ?_⟩, fun g hg => ?_⟩
    · rw [add_plain] at q0
      exact World.block_lt_of_cell? W _ q0
    · rw [List.getElem?_map] at hj
      obtain ⟨i', hi', rfl⟩ := Option.map_eq_some_iff.1 hj
      have hlt : j < n := by
        rcases Nat.lt_or_ge j n with h' | h'
        · exact h'
        · rw [List.getElem?_eq_none (by simpa using h')] at hi'; cases hi'
      rw [List.getElem?_range hlt] at hi'
      cases hi'
      rw [← add_plain]
      exact (hfn j hlt).2 i v hv
    · obtain ⟨i, hi, rfl⟩ := List.mem_map.1 hg
      exact (hfn i (List.mem_range.1 hi)).1
end Go.Proofs.Ytlkodgmnhphfcaa
