/- A message, and a message whose arguments are bytes, as they come in: opened. -/
import Derived.Test.YtoggnfadfocogaaDoorWireB
import Derived.Lib.SmallJoins
import Derived.ProofKit
import Derived.OpenShut
import Derived.ShutString
import Derived.ChangeOld
namespace Go.Proofs.YtoggnfadfocogaaDoor
open Go Go.ChangeShapes Go.WideShapes Go.ChangeAt Go.RowKit Go.Deep

theorem i64_range {n : Int} (h : (Lit.int .i64 n).wf = true) : -9223372036854775808 ≤ n ∧ n ≤ 9223372036854775807 := by
  simpa [Lit.wf, IntKind.min, IntKind.max, IntKind.signed, IntKind.bits] using h
theorem u8_range {n : Int} (h : (Lit.int .u8 n).wf = true) : 0 ≤ n ∧ n ≤ 255 := by
  simpa [Lit.wf, IntKind.min, IntKind.max, IntKind.signed, IntKind.bits] using h

theorem cellsArg : Tryd.prog.cellsOf 60 = 3 := by kernel_rfl

variable {H : Type} {enc : TypeId × Value → H} {W : World} {base : Nat} {v : Value} {d : DataW H} {p : List MemPlace}

set_option maxRecDepth 100000 in
/-- api.Raw. -/
theorem open_raw (hv : Value.okWide Tryd.prog W .any base 26 v) (h : DataW.Trod enc Tryd.prog W 0 (fun _ => true) true 26 v d p) :
    ∃ (o q : Int) (s : ByteArray), v = .agg #[.int .i64 o, .int .i64 q, .string s] ∧ (-9223372036854775808 ≤ o ∧ o ≤ 9223372036854775807) ∧ (-9223372036854775808 ≤ q ∧ q ≤ 9223372036854775807) ∧ s.size ≤ maxLen := by
  obtain ⟨v0, v1, v2, y0, y1, y2, n, rfl, _, _, h0, h1, h2⟩ := Joins.open_agg3 Tryd.underlying26 (by kernel_rfl) (by kernel_rfl) hv h
  obtain ⟨o, e0, _, w0⟩ := DataW.trod_int Tryd.underlying3 h0
  obtain ⟨q, e1, _, w1⟩ := DataW.trod_int Tryd.underlying3 h1
  obtain ⟨s, e2, _, w2⟩ := DataW.trod_string Tryd.underlying9 h2
  simp only [List.cons.injEq, and_true] at e0 e1 e2
  subst e0 e1 e2
  exact ⟨o, q, s, rfl, i64_range w0, i64_range w1, w2⟩

set_option maxRecDepth 100000 in
theorem open_arg {n : Nat} {cs : List Value} {x : DataW H × List MemPlace} (h : DataW.trod enc Tryd.prog W 0 (fun _ => true) true n 60 cs = some x) : ∃ y : AV, cs = ac y ∧ y.Ok := by
  obtain ⟨y0, y1, y2, m, _, hl, h0, h1, h2⟩ := trod_struct3 Tryd.underlying60 h
  rw [cellsArg] at hl
  match cs, hl with
  | [c0, c1, c2], _ =>
    have k5 : Tryd.prog.cellsOf 5 = 1 := by kernel_rfl
    have k3 : Tryd.prog.cellsOf 3 = 1 := by kernel_rfl
    have k9 : Tryd.prog.cellsOf 9 = 1 := by kernel_rfl
    simp only [k5, k3, k9, List.drop_zero, List.drop_succ_cons, List.take_succ_cons, List.take_zero] at h0 h1 h2
    obtain ⟨a, e0, _, w0⟩ := DataW.trod_int Tryd.underlying5 h0
    obtain ⟨b, e1, _, w1⟩ := DataW.trod_int Tryd.underlying3 h1
    obtain ⟨s, e2, _, w2⟩ := DataW.trod_string Tryd.underlying9 h2
    simp only [List.cons.injEq, and_true] at e0 e1 e2
    subst e0 e1 e2
    have ha := u8_range w0
    have hb := i64_range w1
    refine ⟨⟨a.toNat, b, s⟩, ?_, ⟨by show a.toNat < 256; omega, hb.1, hb.2, w2⟩⟩
    show [Value.int .u8 a, Value.int .i64 b, Value.string s] = [Value.int .u8 ((a.toNat : Nat) : Int), Value.int .i64 b, Value.string s]
    rw [Int.toNat_of_nonneg ha.1]

set_option maxRecDepth 100000 in
/-- api.Msg. -/
theorem open_msg (hv : Value.okWide Tryd.prog W .any base 24 v) (h : DataW.Trod enc Tryd.prog W 0 (fun _ => true) true 24 v d p) :
    ∃ (o q : Int) (a : Option Addr) (n c : Nat) (l : List AV), v = .agg #[.int .i64 o, .int .i64 q, .slice a n c] ∧ (-9223372036854775808 ≤ o ∧ o ≤ 9223372036854775807) ∧ (-9223372036854775808 ≤ q ∧ q ≤ 9223372036854775807) ∧ RdA W a n c l := by
  obtain ⟨v0, v1, v2, y0, y1, y2, m, rfl, _, _, h0, h1, h2⟩ := Joins.open_agg3 Tryd.underlying24 (by kernel_rfl) (by kernel_rfl) hv h
  obtain ⟨o, e0, _, w0⟩ := DataW.trod_int Tryd.underlying3 h0
  obtain ⟨q, e1, _, w1⟩ := DataW.trod_int Tryd.underlying3 h1
  simp only [List.cons.injEq, and_true] at e0 e1
  subst e0 e1
  rcases open_slice Tryd.underlying22 h2 with ⟨e2, _⟩ | ⟨a, len, cap, mm, k, D, Pl, e2, hb, hl, hm, hmm, _, hx⟩
  · simp only [List.cons.injEq, and_true] at e2
    subst e2
    exact ⟨o, q, none, 0, 0, [], rfl, i64_range w0, i64_range w1, RdA.nil W⟩
  · simp only [List.cons.injEq, and_true] at e2
    subst e2
    simp only [if_true] at hmm
    subst hmm
    rw [cellsArg] at hx
    have each : ∀ i, i < mm → ∃ y : AV, W.cells? 0 (a.add (i * 3)) 3 = some (ac y) ∧ y.Ok := fun i hi => by
      obtain ⟨cs', h1, h2⟩ := hx i hi
      obtain ⟨y, rfl, hy⟩ := open_arg h2
      exact ⟨y, h1, hy⟩
    have : ∀ len, len ≤ mm → ∃ l : List AV, l.length = len ∧ (∀ y ∈ l, y.Ok) ∧ ∀ j u, (acs l)[j]? = some u → W.cell? (a.add j) = some u := by
      intro len
      induction len with
      | zero => intro _; exact ⟨[], rfl, (fun _ h => by cases h), fun j u hu => by simp [acs] at hu⟩
      | succ len ih =>
        intro hle
        obtain ⟨l, h1, h2, h3⟩ := ih (by omega)
        obtain ⟨y, hy, hok⟩ := each len (by omega)
        refine ⟨l ++ [y], by rw [List.length_append, h1]; rfl, fun z hz => ?_, fun j u hu => ?_⟩
        · rcases List.mem_append.1 hz with hz | hz
          · exact h2 z hz
          · simp only [List.mem_cons, List.not_mem_nil, or_false] at hz
            subst hz
            exact hok
        · rw [acs_append, show acs [y] = ac y from List.append_nil _] at hu
          rcases Nat.lt_or_ge j (acs l).length with hj | hj
          · rw [List.getElem?_append_left hj] at hu
            exact h3 j u hu
          · rw [List.getElem?_append_right hj] at hu
            obtain ⟨_, _, hc⟩ := World.cells?_some hy
            rw [acs_length, h1] at hu hj
            have hj3 : j - len * 3 < 3 := by
              rcases Nat.lt_or_ge (j - len * 3) 3 with h' | h'
              · exact h'
              · rw [List.getElem?_eq_none (by show 3 ≤ _; exact h')] at hu; cases hu
            have := hc (j - len * 3) hj3
            rw [hu, add_add, show len * 3 + (j - len * 3) = j by omega] at this
            exact this
    obtain ⟨l, h1, h2, h3⟩ := this len hl
    exact ⟨o, q, some a, len, mm, l, rfl, i64_range w0, i64_range w1, ⟨h1, hl, hm, (fun h => by cases h), fun x hx => by cases hx; exact h3, h2⟩⟩
end Go.Proofs.YtoggnfadfocogaaDoor
