/- Slices of byte slices, and slices of messages, as they come in: opened. -/
import Derived.Test.YtfbebifbfpkdaaaDoorRdrH
import Derived.Lib.SmallJoins
import Derived.ProofKit
import Derived.OpenShut
import Derived.ShutString
import Derived.ChangeOld
import Derived.SizedLaws
namespace Go.Proofs.YtfbebifbfpkdaaaDoor
open Go Go.ChangeShapes Go.WideShapes Go.ChangeAt Go.RowKit Go.Deep

/-- A slice whose first n elements are slices of bytes, L. -/
structure RdB (w : World) (a : Option Addr) (n c : Nat) (L : List (List UInt8)) : Prop where
  len : L.length = n
  le : n ≤ c
  max : c ≤ maxLen
  hnil : a = none → c = 0
  each : ∀ x, a = some x → ∀ j b, L[j]? = some b → ∃ a' n' c', w.cell? (x.add j) = some (.slice a' n' c') ∧ Rd w a' n' c' b ∧ n' ≤ 140737488351232

theorem RdB.at_ {w : World} {a : Option Addr} {n c : Nat} {L : List (List UInt8)} (h : RdB w a n c L) (j : Nat) (hj : j < n) : ∃ b off l a' n' c', a = some ⟨b, off, none⟩ ∧ L[j]? = some l ∧ w.cell? ⟨b, off + j, none⟩ = some (.slice a' n' c') ∧ Rd w a' n' c' l ∧ n' ≤ 140737488351232 := by
  have hl := h.len
  obtain ⟨l, hL⟩ : ∃ l, L[j]? = some l := ⟨_, List.getElem?_eq_getElem (by omega)⟩
  cases a with
  | none => have := h.hnil rfl; have := h.le; omega
  | some x =>
    obtain ⟨b, off, spot⟩ := x
    obtain ⟨a', n', c', h1, h2, h3⟩ := h.each _ rfl j l hL
    have hspot : spot = none := by
      obtain ⟨l0, hL0⟩ : ∃ l, L[0]? = some l := ⟨_, List.getElem?_eq_getElem (by omega)⟩
      obtain ⟨_, _, _, h0, _⟩ := h.each _ rfl 0 l0 hL0
      simpa [Addr.add] using World.cell?_spot h0
    subst hspot
    rw [Go.WideShapes.add_plain] at h1
    exact ⟨b, off, l, a', n', c', rfl, hL, h1, h2, h3⟩

theorem weightsAll_mem {H : Type} {P : Program} {e : TypeId} : ∀ {l : List (DataW H)} {d : DataW H}, d ∈ l → ∀ n ∈ d.weights P e, n ∈ DataW.weightsAll P e l
  | d' :: r, d, hd, n, hn => by
    simp only [DataW.weightsAll, List.mem_append]
    rcases List.mem_cons.1 hd with rfl | h
    · exact Or.inl hn
    · exact Or.inr (weightsAll_mem h n hn)

theorem i64_range {n : Int} (h : (Lit.int .i64 n).wf = true) : -9223372036854775808 ≤ n ∧ n ≤ 9223372036854775807 := by
  simpa [Lit.wf, IntKind.min, IntKind.max, IntKind.signed, IntKind.bits] using h

/-- What Go's types say of a message. -/
structure RV.Ok (x : RV) : Prop where
  o : -9223372036854775808 ≤ x.o ∧ x.o ≤ 9223372036854775807
  p : -9223372036854775808 ≤ x.p ∧ x.p ≤ 9223372036854775807
  s : x.s.size ≤ maxLen

variable {H : Type} {enc : TypeId × Value → H} {W : World} {d : DataW H} {p : List MemPlace}

set_option maxRecDepth 100000 in
/-- [][]byte. -/
theorem open_rows {a : Option Addr} {n c : Nat} (h : DataW.Trod enc Tryd.prog W 0 (fun _ => true) true 22 (.slice a n c) d p) (hw : ∀ m ∈ d.weights Tryd.prog 22, m ≤ reachBytes) : ∃ L, RdB W a n c L := by
  obtain ⟨fuel, hf⟩ := h
  rcases open_slice1 Tryd.underlying22 (by kernel_rfl) hf with ⟨hcs, _⟩ | ⟨x, len, cap, m, k, V, D, Pl, hcs, hb, hl, hm, hmm, hx, hV⟩
  · simp [Value.cells] at hcs
    obtain ⟨rfl, rfl, rfl⟩ := hcs
    exact ⟨[], rfl, Nat.le_refl _, Nat.zero_le _, fun _ => rfl, fun _ h => by cases h⟩
  · simp [Value.cells] at hcs
    obtain ⟨rfl, rfl, rfl⟩ := hcs
    simp only [Prod.mk.injEq] at hx
    obtain ⟨rfl, _⟩ := hx
    simp only [if_true] at hmm
    subst hmm
    have each : ∀ i, i < n → ∃ b : List UInt8, ∃ a' n' c', W.cell? (x.add i) = some (.slice a' n' c') ∧ Rd W a' n' c' b ∧ n' ≤ 140737488351232 := fun i hi => by
      obtain ⟨h1, h2⟩ := hV i (by omega)
      rcases open_ints Tryd.underlying26 Tryd.underlying5 (by kernel_rfl) h2 with ⟨hcs, _⟩ | ⟨y, l', c', zs, hcs, _, hl', hm', hz, hD, hcell, hwz⟩
      · simp only [List.cons.injEq, and_true] at hcs
        rw [hcs] at h1
        exact ⟨[], none, 0, 0, h1, Rd.nil W, by decide⟩
      · simp only [List.cons.injEq, and_true] at hcs
        rw [hcs] at h1
        have hz1 : zs.length = c' := by simpa using hz
        obtain ⟨b, hb, _⟩ := (RdI.ofRow hl' hm' (by rw [hz1, Nat.mul_one]) hcell hwz).bytes
        have hmem : D i ∈ (List.range n).map D := List.mem_map.2 ⟨i, List.mem_range.2 hi, rfl⟩
        have hDi : D i = .slice (lits .u8 (zs.take l')) (lits .u8 (zs.drop l')) := congrArg Prod.fst hD
        have hwt := hw (((lits .u8 (zs.take l')).length (α := DataW H) + (lits .u8 (zs.drop l')).length (α := DataW H)) * Tryd.prog.bytesOf 5) (by
          simp only [DataW.weights, Tryd.underlying22, List.mem_cons, List.mem_append]
          exact Or.inr (Or.inl (weightsAll_mem hmem _ (by rw [hDi]; simp [DataW.weights, Tryd.underlying26]))))
        rw [show Tryd.prog.bytesOf 5 = 1 by kernel_rfl] at hwt
        simp only [lits, List.length_map, List.length_take, List.length_drop, reachBytes] at hwt
        exact ⟨b, _, _, _, h1, hb, by omega⟩
    obtain ⟨f, hfn⟩ := choose_lt (α := List UInt8) each
    refine ⟨(List.range n).map f, by simp, hl, hm, (fun h => by cases h), fun y hy j b hj => ?_⟩
    cases hy
    rw [List.getElem?_map] at hj
    obtain ⟨i, hi, rfl⟩ := Option.map_eq_some_iff.1 hj
    have hlt : j < n := by
      rcases Nat.lt_or_ge j n with h' | h'
      · exact h'
      · rw [List.getElem?_eq_none (by simpa using h')] at hi; cases hi
    rw [List.getElem?_range hlt] at hi
    cases hi
    exact hfn j hlt

theorem cellsRaw : Tryd.prog.cellsOf 46 = 3 := by kernel_rfl

set_option maxRecDepth 100000 in
theorem open_raw1 {n : Nat} {cs : List Value} {x : DataW H × List MemPlace} (h : DataW.trod enc Tryd.prog W 0 (fun _ => true) true n 46 cs = some x) : ∃ y : RV, cs = rc y ∧ y.Ok := by
  obtain ⟨y0, y1, y2, m, _, hl, h0, h1, h2⟩ := trod_struct3 Tryd.underlying46 h
  rw [cellsRaw] at hl
  match cs, hl with
  | [c0, c1, c2], _ =>
    have k3 : Tryd.prog.cellsOf 3 = 1 := by kernel_rfl
    have k9 : Tryd.prog.cellsOf 9 = 1 := by kernel_rfl
    simp only [k3, k9, List.drop_zero, List.drop_succ_cons, List.take_succ_cons, List.take_zero] at h0 h1 h2
    obtain ⟨a, e0, _, w0⟩ := DataW.trod_int Tryd.underlying3 h0
    obtain ⟨b, e1, _, w1⟩ := DataW.trod_int Tryd.underlying3 h1
    obtain ⟨s, e2, _, w2⟩ := DataW.trod_string Tryd.underlying9 h2
    simp only [List.cons.injEq, and_true] at e0 e1 e2
    subst e0 e1 e2
    exact ⟨⟨a, b, s⟩, rfl, i64_range w0, i64_range w1, w2⟩

set_option maxRecDepth 100000 in
/-- []api.Raw. -/
theorem open_raws {a : Option Addr} {n c : Nat} (h : DataW.Trod enc Tryd.prog W 0 (fun _ => true) true 30 (.slice a n c) d p) : ∃ l, RdR W a n c l ∧ ∀ x ∈ l, x.Ok := by
  obtain ⟨fuel, hf⟩ := h
  rcases open_slice Tryd.underlying30 hf with ⟨hcs, _⟩ | ⟨a, len, cap, mm, k, D, Pl, hcs, hb, hl, hm, hmm, _, hx⟩
  · simp [Value.cells] at hcs
    obtain ⟨rfl, rfl, rfl⟩ := hcs
    exact ⟨[], RdR.nil W, fun _ h => by cases h⟩
  · simp [Value.cells] at hcs
    obtain ⟨rfl, rfl, rfl⟩ := hcs
    simp only [if_true] at hmm
    subst hmm
    rw [cellsRaw] at hx
    have each : ∀ i, i < mm → ∃ y : RV, W.cells? 0 (a.add (i * 3)) 3 = some (rc y) ∧ y.Ok := fun i hi => by
      obtain ⟨cs', h1, h2⟩ := hx i hi
      obtain ⟨y, rfl, hy⟩ := open_raw1 h2
      exact ⟨y, h1, hy⟩
    have : ∀ len, len ≤ mm → ∃ l : List RV, l.length = len ∧ (∀ y ∈ l, y.Ok) ∧ ∀ j u, (rcs l)[j]? = some u → W.cell? (a.add j) = some u := by
      intro len
      induction len with
      | zero => intro _; exact ⟨[], rfl, (fun _ h => by cases h), fun j u hu => by simp [rcs] at hu⟩
      | succ len ih =>
        intro hle
        obtain ⟨l, h1, h2, h3⟩ := ih (by omega)
        obtain ⟨y, hy, hok⟩ := each len (by omega)
        refine ⟨l ++ [y], by rw [List.length_append, h1]; rfl, fun z hz => ?_, fun j u hu => ?_⟩
        · rcases List.mem_append.1 hz with hz | hz
          · exact h2 z hz
          · simp only [List.mem_cons, List.not_mem_nil, or_false] at hz
            subst hz
            exact hok
        · rw [rcs_append, show rcs [y] = rc y from List.append_nil _] at hu
          rcases Nat.lt_or_ge j (rcs l).length with hj | hj
          · rw [List.getElem?_append_left hj] at hu
            exact h3 j u hu
          · rw [List.getElem?_append_right hj] at hu
            obtain ⟨_, _, hc⟩ := World.cells?_some hy
            rw [rcs_length, h1] at hu hj
            have hj3 : j - len * 3 < 3 := by
              rcases Nat.lt_or_ge (j - len * 3) 3 with h' | h'
              · exact h'
              · rw [List.getElem?_eq_none (by show 3 ≤ _; exact h')] at hu; cases hu
            have := hc (j - len * 3) hj3
            rw [hu, add_add, show len * 3 + (j - len * 3) = j by omega] at this
            exact this
    obtain ⟨l, h1, h2, h3⟩ := this n hl
    exact ⟨l, ⟨h1, hl, hm, (fun h => by cases h), fun x hx => by cases hx; exact h3⟩, h2⟩
end Go.Proofs.YtfbebifbfpkdaaaDoor
