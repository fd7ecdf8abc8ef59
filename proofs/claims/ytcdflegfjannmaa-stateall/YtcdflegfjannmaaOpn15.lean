/- A state of law 15, as it comes in: opened. -/
import Derived.Test.YtcdflegfjannmaaStaF
import Derived.Lib.SmallJoins
import Derived.ProofKit
import Derived.OpenShut
import Derived.ShutString
import Derived.ChangeOld
import Derived.SizedLaws
namespace Go.Proofs.Ytcdflegfjannmaa
open Go Go.ChangeShapes Go.WideShapes Go.ChangeAt Go.RowKit Go.Deep

theorem cellsSt : Try.prog.cellsOf 26 = 10 := by kernel_rfl

variable {H : Type} {enc : TypeId × Value → H} {W : World} {d : DataW H} {p : List MemPlace}

set_option maxRecDepth 100000 in
theorem open_nums1 {k : Nat} {c : Value} {x : DataW H × List MemPlace} (h : DataW.trod enc Try.prog W 0 (fun _ => true) true k 23 [c] = some x) : ∃ s : Sl, c = .slice s.a s.n s.c ∧ RdM 1 W s.a s.n s.c s.l := by
  rcases open_ints Try.underlying23 Try.underlying3 (by kernel_rfl) h with ⟨hcs, _⟩ | ⟨y, l', c', zs, hcs, _, hl', hm', hz, hD, hcell, hwz⟩
  · simp only [List.cons.injEq, and_true] at hcs
    subst hcs
    exact ⟨⟨none, 0, 0, []⟩, rfl, RdM.nil _ W⟩
  · simp only [List.cons.injEq, and_true] at hcs
    subst hcs
    have hz1 : zs.length = c' := by simpa using hz
    have hr := RdI.ofRow (w := W) hl' hm' (by rw [hz1, Nat.mul_one]) hcell hwz
    refine ⟨⟨some y, l', c', (zs.take l').map fun z => [z]⟩, rfl, by rw [List.length_map]; exact hr.len, hr.le, hr.max, (fun h => by cases h), fun hn => ?_, fun y hy => by obtain ⟨z, _, rfl⟩ := List.mem_map.1 hy; rfl⟩
    obtain ⟨b, off, e, hb, hc⟩ := hr.plain hn
    refine ⟨b, off, e, hb, fun j t ht i z hz => ?_⟩
    rw [List.getElem?_map] at ht
    obtain ⟨u, hu, rfl⟩ := Option.map_eq_some_iff.1 ht
    match i, hz with
    | 0, hz =>
      simp only [List.getElem?_cons_zero, Option.some.injEq] at hz
      subst hz
      have := hc j ((List.getElem?_eq_some_iff.1 hu).1)
      rw [Nat.mul_one, Nat.add_zero, this, List.getD, hu]
      rfl
    | i + 1, hz => simp at hz

set_option maxRecDepth 100000 in
theorem open_numsM {T E : TypeId} {fs : Array Field} {m : Nat} (hm : 0 < m) (hT : Try.prog.underlying T = some (.slice E)) (ht : Try.prog.underlying E = some (.struct fs)) (hm0 : fs.size = m) (hc : Try.prog.cellsOf E = m) (hf : numsB Try.prog fs = true) {k : Nat} {c : Value} {x : DataW H × List MemPlace} (h : DataW.trod enc Try.prog W 0 (fun _ => true) true k T [c] = some x) : ∃ s : Sl, c = .slice s.a s.n s.c ∧ RdM m W s.a s.n s.c s.l := by
  have key : ∀ a n c', c = .slice a n c' → ∃ s : Sl, c = .slice s.a s.n s.c ∧ RdM m W s.a s.n s.c s.l := fun a n c' e => by
    subst e
    obtain ⟨l, hl⟩ := open_structs (m := m) (P := Try.prog) (W := W) (enc := enc) (T := T) (E := E) hT ht hm0 hc hf (a := a) (n := n) (c := c') (d := x.1) (p := x.2) ⟨k, by rw [show (x.1, x.2) = x from rfl]; exact h⟩
    exact ⟨⟨a, n, c', l⟩, rfl, rdm_of_rdn hm hl⟩
  rcases open_slice hT h with ⟨hcs, _⟩ | ⟨a, len, cap, mm, k', D, Pl, hcs, _⟩
  · simp only [List.cons.injEq, and_true] at hcs
    exact key _ _ _ hcs
  · simp only [List.cons.injEq, and_true] at hcs
    exact key _ _ _ hcs

set_option maxRecDepth 100000 in
theorem open_st {n : Nat} {cs : List Value} {x : DataW H × List MemPlace} (h : DataW.trod enc Try.prog W 0 (fun _ => true) true n 26 cs = some x) : ∃ o : Sx, cs = [.bool o.at_, .int .i64 o.buf, .slice o.dm.a o.dm.n o.dm.c, .slice o.fr.a o.fr.n o.fr.c, .bool o.inp, .bool o.all, .slice o.rg.a o.rg.n o.rg.c, .bool o.ord, .slice o.od.a o.od.n o.od.c, .slice o.pl.a o.pl.n o.pl.c] ∧ o.Ok W := by
  obtain ⟨xs, k, _, _, hl, hlen, hx⟩ := DataW.trod_struct Try.underlying26 h
  rw [cellsSt] at hl
  match cs, hl, xs, hlen with
  | [c0, c1, c2, c3, c4, c5, c6, c7, c8, c9], _, [x0, x1, x2, x3, x4, x5, x6, x7, x8, x9], _ =>
    have h0 : DataW.trod enc Try.prog W 0 (fun _ => true) true k 4 (([c0, c1, c2, c3, c4, c5, c6, c7, c8, c9].drop 0).take (Try.prog.cellsOf 4)) = some x0 := hx 0 _ rfl
    have h1 : DataW.trod enc Try.prog W 0 (fun _ => true) true k 3 (([c0, c1, c2, c3, c4, c5, c6, c7, c8, c9].drop 1).take (Try.prog.cellsOf 3)) = some x1 := hx 1 _ rfl
    have h2 : DataW.trod enc Try.prog W 0 (fun _ => true) true k 22 (([c0, c1, c2, c3, c4, c5, c6, c7, c8, c9].drop 2).take (Try.prog.cellsOf 22)) = some x2 := hx 2 _ rfl
    have h3 : DataW.trod enc Try.prog W 0 (fun _ => true) true k 23 (([c0, c1, c2, c3, c4, c5, c6, c7, c8, c9].drop 3).take (Try.prog.cellsOf 23)) = some x3 := hx 3 _ rfl
    have h4 : DataW.trod enc Try.prog W 0 (fun _ => true) true k 4 (([c0, c1, c2, c3, c4, c5, c6, c7, c8, c9].drop 4).take (Try.prog.cellsOf 4)) = some x4 := hx 4 _ rfl
    have h5 : DataW.trod enc Try.prog W 0 (fun _ => true) true k 4 (([c0, c1, c2, c3, c4, c5, c6, c7, c8, c9].drop 5).take (Try.prog.cellsOf 4)) = some x5 := hx 5 _ rfl
    have h6 : DataW.trod enc Try.prog W 0 (fun _ => true) true k 22 (([c0, c1, c2, c3, c4, c5, c6, c7, c8, c9].drop 6).take (Try.prog.cellsOf 22)) = some x6 := hx 6 _ rfl
    have h7 : DataW.trod enc Try.prog W 0 (fun _ => true) true k 4 (([c0, c1, c2, c3, c4, c5, c6, c7, c8, c9].drop 7).take (Try.prog.cellsOf 4)) = some x7 := hx 7 _ rfl
    have h8 : DataW.trod enc Try.prog W 0 (fun _ => true) true k 23 (([c0, c1, c2, c3, c4, c5, c6, c7, c8, c9].drop 8).take (Try.prog.cellsOf 23)) = some x8 := hx 8 _ rfl
    have h9 : DataW.trod enc Try.prog W 0 (fun _ => true) true k 24 (([c0, c1, c2, c3, c4, c5, c6, c7, c8, c9].drop 9).take (Try.prog.cellsOf 24)) = some x9 := hx 9 _ rfl
    have k0 : Try.prog.cellsOf 4 = 1 := by kernel_rfl
    have k1 : Try.prog.cellsOf 3 = 1 := by kernel_rfl
    have k2 : Try.prog.cellsOf 22 = 1 := by kernel_rfl
    have k3 : Try.prog.cellsOf 23 = 1 := by kernel_rfl
    have k9 : Try.prog.cellsOf 24 = 1 := by kernel_rfl
    simp only [k0, k1, k2, k3, k9, List.drop_zero, List.drop_succ_cons, List.take_succ_cons, List.take_zero] at h0 h1 h2 h3 h4 h5 h6 h7 h8 h9
    obtain ⟨a0, e0, _⟩ := DataW.trod_bool Try.underlying4 h0
    obtain ⟨a1, e1, _, _⟩ := DataW.trod_int Try.underlying3 h1
    obtain ⟨a4, e4, _⟩ := DataW.trod_bool Try.underlying4 h4
    obtain ⟨a5, e5, _⟩ := DataW.trod_bool Try.underlying4 h5
    obtain ⟨a7, e7, _⟩ := DataW.trod_bool Try.underlying4 h7
    simp only [List.cons.injEq, and_true] at e0 e1 e4 e5 e7
    subst e0 e1 e4 e5 e7
    obtain ⟨s2, rfl, r2⟩ := open_numsM (m := 4) (by decide) Try.underlying22 Try.underlying48 rfl (by kernel_rfl) (by kernel_rfl) h2
    obtain ⟨s3, rfl, r3⟩ := open_nums1 h3
    obtain ⟨s6, rfl, r6⟩ := open_numsM (m := 4) (by decide) Try.underlying22 Try.underlying48 rfl (by kernel_rfl) (by kernel_rfl) h6
    obtain ⟨s8, rfl, r8⟩ := open_nums1 h8
    obtain ⟨s9, rfl, r9⟩ := open_numsM (m := 3) (by decide) Try.underlying24 Try.underlying28 rfl (by kernel_rfl) (by kernel_rfl) h9
    exact ⟨⟨a0, a1, s2, s3, a4, a5, s6, a7, s8, s9⟩, rfl, ⟨r2, r3, r6, r8, r9⟩⟩

set_option maxRecDepth 100000 in
theorem open_stv {r : Reach} {b0 : Nat} {v : Value} (hv : Value.okWide Try.prog W r b0 26 v) (h : DataW.Trod enc Try.prog W 0 (fun _ => true) true 26 v d p) : ∃ o : Sx, v = .agg #[.bool o.at_, .int .i64 o.buf, .slice o.dm.a o.dm.n o.dm.c, .slice o.fr.a o.fr.n o.fr.c, .bool o.inp, .bool o.all, .slice o.rg.a o.rg.n o.rg.c, .bool o.ord, .slice o.od.a o.od.n o.od.c, .slice o.pl.a o.pl.n o.pl.c] ∧ o.Ok W := by
  obtain ⟨cs, rfl, _⟩ := okWide_struct Try.underlying26 hv
  obtain ⟨fuel, hf'⟩ := h
  obtain ⟨o, hcs, hw⟩ := open_st hf'
  refine ⟨o, ?_, hw⟩
  have : cs.toList = [.bool o.at_, .int .i64 o.buf, .slice o.dm.a o.dm.n o.dm.c, .slice o.fr.a o.fr.n o.fr.c, .bool o.inp, .bool o.all, .slice o.rg.a o.rg.n o.rg.c, .bool o.ord, .slice o.od.a o.od.n o.od.c, .slice o.pl.a o.pl.n o.pl.c] := by simpa [Value.cells] using hcs
  rw [← Array.toArray_toList (xs := cs), this]
end Go.Proofs.Ytcdflegfjannmaa
