/- Slices of byte slices, and slices of messages, as they come in: opened. -/
import Derived.Test.YtmcbbpcbebbjdaaDoorLibA
import Derived.Test.YtmcbbpcbebbjdaaDoorChecked
import Derived.Lib.SmallJoins
import Derived.ProofKit
import Derived.OpenShut
import Derived.ShutString
import Derived.ChangeOld
import Derived.SizedLaws
namespace Go.Proofs.YtmcbbpcbebbjdaaDoor
open Go Go.ChangeShapes Go.WideShapes Go.ChangeAt Go.RowKit Go.Deep

/-- A slice whose first n elements are slices of bytes, L. -/
structure RdB (w : World) (a : Option Addr) (n c : Nat) (L : List (List UInt8)) : Prop where
  len : L.length = n
  le : n ≤ c
  max : c ≤ maxLen
  hnil : a = none → c = 0
  each : ∀ x, a = some x → ∀ j b, L[j]? = some b → ∃ a' n' c', w.cell? (x.add j) = some (.slice a' n' c') ∧ Rd w a' n' c' b ∧ n' ≤ 140737488351232

theorem RdB.at_ {w : World} {a : Option Addr} {n c : Nat} {L : List (List UInt8)} (h : RdB w a n c L) (j : Nat) (hj : j < n) : ∃ b off l a' n' c', a = some ⟨b, off, none⟩ ∧ L[j]? = some l ∧ w.cell? ⟨b, off + j, none⟩ = some (.slice a' n' c') ∧ Rd w a' n' c' l ∧ n' ≤ 140737488351232 := by
  have hl := h.len
  obtain ⟨l, hL⟩ : ∃ l, L[j]? = some l := ⟨_, List.getElem?_eq_getElem (by omega)⟩
  cases a with
  | none => have := h.hnil rfl; have := h.le; omega
  | some x =>
    obtain ⟨b, off, spot⟩ := x
    obtain ⟨a', n', c', h1, h2, h3⟩ := h.each _ rfl j l hL
    have hspot : spot = none := by
      obtain ⟨l0, hL0⟩ : ∃ l, L[0]? = some l := ⟨_, List.getElem?_eq_getElem (by omega)⟩
      obtain ⟨_, _, _, h0, _⟩ := h.each _ rfl 0 l0 hL0
      simpa [Addr.add] using World.cell?_spot h0
    subst hspot
    rw [Go.WideShapes.add_plain] at h1
    exact ⟨b, off, l, a', n', c', rfl, hL, h1, h2, h3⟩

theorem weightsAll_mem {H : Type} {P : Program} {e : TypeId} : ∀ {l : List (DataW H)} {d : DataW H}, d ∈ l → ∀ n ∈ d.weights P e, n ∈ DataW.weightsAll P e l
  | d' :: r, d, hd, n, hn => by
    simp only [DataW.weightsAll, List.mem_append]
    rcases List.mem_cons.1 hd with rfl | h
    · exact Or.inl hn
    · exact Or.inr (weightsAll_mem h n hn)

theorem i64_range {n : Int} (h : (Lit.int .i64 n).wf = true) : -9223372036854775808 ≤ n ∧ n ≤ 9223372036854775807 := by
  simpa [Lit.wf, IntKind.min, IntKind.max, IntKind.signed, IntKind.bits] using h


variable {H : Type} {enc : TypeId × Value → H} {W : World} {d : DataW H} {p : List MemPlace}

set_option maxRecDepth 100000 in
/-- [][]byte. -/
theorem open_rows {a : Option Addr} {n c : Nat} (h : DataW.Trod enc Tryd.prog W 0 (fun _ => true) true 44 (.slice a n c) d p) (hw : ∀ m ∈ d.weights Tryd.prog 44, m ≤ reachBytes) : ∃ L, RdB W a n c L := by
  obtain ⟨fuel, hf⟩ := h
  rcases open_slice1 Tryd.underlying44 (by kernel_rfl) hf with ⟨hcs, _⟩ | ⟨x, len, cap, m, k, V, D, Pl, hcs, hb, hl, hm, hmm, hx, hV⟩
  · simp [Value.cells] at hcs
    obtain ⟨rfl, rfl, rfl⟩ := hcs
    exact ⟨[], rfl, Nat.le_refl _, Nat.zero_le _, fun _ => rfl, fun _ h => by cases h⟩
  · simp [Value.cells] at hcs
    obtain ⟨rfl, rfl, rfl⟩ := hcs
    simp only [Prod.mk.injEq] at hx
    obtain ⟨rfl, _⟩ := hx
    simp only [if_true] at hmm
    subst hmm
    have each : ∀ i, i < n → ∃ b : List UInt8, ∃ a' n' c', W.cell? (x.add i) = some (.slice a' n' c') ∧ Rd W a' n' c' b ∧ n' ≤ 140737488351232 := fun i hi => by
      obtain ⟨h1, h2⟩ := hV i (by omega)
      rcases open_ints Tryd.underlying27 Tryd.underlying5 (by kernel_rfl) h2 with ⟨hcs, _⟩ | ⟨y, l', c', zs, hcs, _, hl', hm', hz, hD, hcell, hwz⟩
      · simp only [List.cons.injEq, and_true] at hcs
        rw [hcs] at h1
        exact ⟨[], none, 0, 0, h1, Rd.nil W, by decide⟩
      · simp only [List.cons.injEq, and_true] at hcs
        rw [hcs] at h1
        have hz1 : zs.length = c' := by simpa using hz
        obtain ⟨b, hb, _⟩ := (RdI.ofRow hl' hm' (by rw [hz1, Nat.mul_one]) hcell hwz).bytes
        have hmem : D i ∈ (List.range n).map D := List.mem_map.2 ⟨i, List.mem_range.2 hi, rfl⟩
        have hDi : D i = .slice (lits .u8 (zs.take l')) (lits .u8 (zs.drop l')) := congrArg Prod.fst hD
        have hwt := hw (((lits .u8 (zs.take l')).length (α := DataW H) + (lits .u8 (zs.drop l')).length (α := DataW H)) * Tryd.prog.bytesOf 5) (by
          simp only [DataW.weights, Tryd.underlying44, List.mem_cons, List.mem_append]
          exact Or.inr (Or.inl (weightsAll_mem hmem _ (by rw [hDi]; simp [DataW.weights, Tryd.underlying27]))))
        rw [show Tryd.prog.bytesOf 5 = 1 by kernel_rfl] at hwt
        simp only [lits, List.length_map, List.length_take, List.length_drop, reachBytes] at hwt
        exact ⟨b, _, _, _, h1, hb, by omega⟩
    obtain ⟨f, hfn⟩ := choose_lt (α := List UInt8) each
    refine ⟨(List.range n).map f, by simp, hl, hm, (fun h => by cases h), fun y hy j b hj => ?_⟩
    cases hy
    rw [List.getElem?_map] at hj
    obtain ⟨i, hi, rfl⟩ := Option.map_eq_some_iff.1 hj
    have hlt : j < n := by
      rcases Nat.lt_or_ge j n with h' | h'
      · exact h'
      · rw [List.getElem?_eq_none (by simpa using h')] at hi; cases hi
    rw [List.getElem?_range hlt] at hi
    cases hi
    exact hfn j hlt

end Go.Proofs.YtmcbbpcbebbjdaaDoor
