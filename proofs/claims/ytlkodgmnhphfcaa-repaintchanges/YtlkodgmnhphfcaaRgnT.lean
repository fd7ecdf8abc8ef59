/- The contract of slices.DeleteFunc with the program's Empty. -/
import Derived.Test.YtlkodgmnhphfcaaRgnS
import Derived.Laws.CopyOwn
namespace Go.Proofs.Ytlkodgmnhphfcaa
open Go Go.RowKit

theorem setRow_own {w u : World} {base e size m c g : Nat} {cur : Array Value} (xs : List Value) (hb : base ≤ g) (hg : u.heap[g]? = some (.cells cur e (0, 0))) (hm : m ≤ c) (hc : c ≤ maxLen) (hcs : cur.size = c * size) (new : List Value) (hn : new.length = cur.size) (hx : new.take (m * size) = xs) (hl : xs.length = m * size) (h : Below base w u) :
    (u.setRow g new.toArray).ownsRow base e size (.slice (some ⟨g, 0, none⟩) m c) m xs ∧ Below base w (u.setRow g new.toArray) := by
  exact ⟨⟨hl, .inr ⟨g, c, new.toArray, rfl, hb, setRow_heap u g cur _ e _ hg, hm, hc, by simpa [hn] using hcs, by simpa using hx⟩⟩, below_setRow h hb _⟩

/-- 'copy' onto a row of the call's own that is just as long. -/
theorem copy_own {w u : World} {g : Nat} {a : Option Addr} {n c : Nat} {l : List Rc} {xs : List Value} (hO : u.ownsRow w.heap.size 36 4 (.slice (some ⟨g, 0, none⟩) n n) n xs) (hB : Below w.heap.size w u) (h : RdC u a n c l) :
    ∃ u', (∀ ty : TypeId, (Builtin.copy_ #[30, 30] ty #[.slice (some ⟨g, 0, none⟩) n n, .slice a n c]).run Try.prog u = .ok (.int .i64 n) u') ∧ OwC w u' (.slice (some ⟨g, 0, none⟩) n n) l := by
  obtain ⟨i0, hi, hz0, hz1, hz2⟩ := info3 infoC
  have hl := h.len
  rcases hO.2 with ⟨e0, _⟩ | ⟨g', cap, cur, e0, hb, hg, hn, hm, hcs, ht⟩
  · cases e0
  · cases e0
    rcases Nat.eq_zero_or_pos n with h0 | h0
    · subst h0
      obtain rfl : l = [] := List.eq_nil_of_length_eq_zero hl
      refine ⟨u, ?_, ⟨?_, hB⟩⟩
      · intro ty
        cases a with
        | none => simp [Builtin.copy_, run_underlying Try.underlying30, Builtin.lenOf, Builtin.firstCells, sizeOf, typeInfo, hi, storeCells, goInt]
        | some x => simp [Builtin.copy_, run_underlying Try.underlying30, Builtin.lenOf, Builtin.firstCells, sizeOf, typeInfo, hi, storeCells, loadCells, loadCellsFrom, goInt]
      · exact ⟨rfl, .inr ⟨g, 0, cur, rfl, hb, hg, hn, hm, hcs, by simp [rccs]⟩⟩
    · obtain ⟨b, off, rfl, hbl, hel⟩ := h.pl h0
      have hcl := cells_of hel
      have hld := run_loadCells_list (P := Try.prog) u ⟨b, off, none⟩ (rccs l) (fun j v hj => by rw [Go.WideShapes.add_plain]; exact hcl j v hj)
      have hst := run_storeCells_at Try.prog g 0 36 (rccs l) 0 cur u hg (by rw [rccs_length, hl, hcs]; simp) (rccs_one l)
      have hlen : (rccs l).length = n * 4 := by rw [rccs_length, hl]
      rw [hlen] at hld
      obtain ⟨o1, o2⟩ := setRow_own (w := w) (rccs l) hb hg hn hm hcs (cur.toList.take 0 ++ rccs l ++ cur.toList.drop (0 + (rccs l).length)) (by simp [hlen, hcs]) (by simp [hlen]) hlen hB
      refine ⟨_, ?_, ⟨by rw [hl]; exact o1, o2⟩⟩
      intro ty
      simp [Builtin.copy_, run_underlying Try.underlying30, Builtin.lenOf, Builtin.firstCells, sizeOf, typeInfo, hi, hz1, hld, hst, goInt]

/-- 'clear' of what is behind the first i of a row of the call's own. -/
theorem clear_own {w u : World} {g n c : Nat} {l : List Rc} (hO : OwC w u (.slice (some ⟨g, 0, none⟩) n c) l) (hn : l.length = n) {i : Nat} (hi : i < n) :
    ∃ u', (∀ (ty : TypeId) (c' : Nat), (Builtin.clear_ #[30] ty #[.slice (some ⟨g, i * 4, none⟩) (n - i) c']).run Try.prog u = .ok (.tuple #[]) u') ∧ OwC w u' (.slice (some ⟨g, 0, none⟩) i c) (l.take i) := by
  have hv : ∀ w', (zeroValue 36).run Try.prog w' = .ok (.agg #[.int .i64 0, .int .i64 0, .int .i64 0, .int .i64 0]) w' := Try.zeroValue36
  have own := hO.own
  rw [hn] at own
  rcases own.2 with ⟨e0, _⟩ | ⟨g', cap, cur, e0, hb, hg, hnc, hm, hcs, ht⟩
  · cases e0
  · cases e0
    obtain ⟨Z, hZ⟩ : ∃ Z, Z = (Builtin.zeroCells (Value.agg #[.int .i64 0, .int .i64 0, .int .i64 0, .int .i64 0]).cells (n - i)).toList := ⟨_, rfl⟩
    have hZl : Z.length = (n - i) * 4 := by rw [hZ]; simp [size_zeroCells, Value.cells]
    have hZ1 : ∀ v ∈ Z, v.oneCell' = true := fun v hv => by
      rw [hZ] at hv
      simp only [Builtin.zeroCells, Value.cells, List.size_toArray, List.length_cons, List.length_nil, Array.toList_map, List.mem_map] at hv
      obtain ⟨k, _, rfl⟩ := hv
      obtain h | h | h | h : k % (0 + 1 + 1 + 1 + 1) = 0 ∨ k % (0 + 1 + 1 + 1 + 1) = 1 ∨ k % (0 + 1 + 1 + 1 + 1) = 2 ∨ k % (0 + 1 + 1 + 1 + 1) = 3 := by omega
      all_goals
        rw [h]
        rfl
    have hst := run_storeCells_at Try.prog g (i * 4) 36 Z 0 cur u hg (by rw [hZl, hcs]; omega) hZ1
    have hlt : (rccs (l.take i)).length = i * 4 := by rw [rccs_length, List.length_take]; omega
    have hpre : cur.toList.take (i * 4) = rccs (l.take i) := by
      have := congrArg (List.take (i * 4)) ht
      rw [List.take_take, Nat.min_eq_left (by omega)] at this
      rw [this]
      have e : rccs l = rccs (l.take i) ++ rccs (l.drop i) := by rw [← rccs_append, List.take_append_drop]
      rw [e, ← hlt, List.take_left]
    obtain ⟨o1, o2⟩ := setRow_own (w := w) (m := i) (rccs (l.take i)) hb hg (by omega) hm hcs (cur.toList.take (i * 4 + 0) ++ Z ++ cur.toList.drop (i * 4 + 0 + Z.length)) (by simp [hZl, hcs]; omega) (by rw [Nat.add_zero, List.append_assoc, hpre, ← hlt, List.take_left]) hlt hO.bel
    refine ⟨_, ?_, ⟨by rw [List.length_take, Nat.min_eq_left (by omega)]; exact o1, o2⟩⟩
    intro ty c'
    obtain ⟨m, hm2⟩ : ∃ m, n - i = m + 1 := ⟨n - i - 1, by omega⟩
    rw [hm2] at hZ ⊢
    simp only [Nat.add_zero] at hst ⊢
    simp [Builtin.clear_, run_underlying Try.underlying30, hv, ← hZ, hst]

theorem rccs_set {l : List Rc} {j : Nat} (hj : j < l.length) (r : Rc) : rccs (l.set j r) = ((((rccs l).set (j * 4) (.int .i64 r.x)).set (j * 4 + 1) (.int .i64 r.y)).set (j * 4 + 2) (.int .i64 r.w)).set (j * 4 + 3) (.int .i64 r.h) := by
  induction l generalizing j with
  | nil => simp at hj
  | cons x l ih =>
    cases j with
    | zero => simp [rccs_cons]
    | succ j =>
      rw [List.set_cons_succ, rccs_cons, rccs_cons, ih (by simpa using hj), show (j + 1) * 4 = j * 4 + 4 by omega]
      simp only [show j * 4 + 4 + 1 = j * 4 + 1 + 4 by omega, show j * 4 + 4 + 2 = j * 4 + 2 + 4 by omega, show j * 4 + 4 + 3 = j * 4 + 3 + 4 by omega, List.set_cons_succ]

/-- A rectangle written at a place of a block. -/
def sto (u : World) (g o : Nat) (a : Rc) : World := (((u.setCell ⟨g, o, none⟩ (.int .i64 a.x)).setCell ⟨g, o + 1, none⟩ (.int .i64 a.y)).setCell ⟨g, o + 2, none⟩ (.int .i64 a.w)).setCell ⟨g, o + 3, none⟩ (.int .i64 a.h)
theorem below_sto {B : Nat} {w u : World} {g : Nat} (h : Below B w u) (hg : B ≤ g) (o : Nat) (a : Rc) : Below B w (sto u g o a) := (((h.setCell (p := ⟨g, o, none⟩) hg _).setCell (p := ⟨g, o + 1, none⟩) hg _).setCell (p := ⟨g, o + 2, none⟩) hg _).setCell (p := ⟨g, o + 3, none⟩) hg _
theorem OwC.sto {w u : World} {g n c : Nat} {l : List Rc} (h : OwC w u (.slice (some ⟨g, 0, none⟩) n c) l) (hn : l.length = n) {j : Nat} (hj : j < n) (r : Rc) : OwC w (sto u g (j * 4) r) (.slice (some ⟨g, 0, none⟩) n c) (l.set j r) := by
  have h1 := h.own
  rw [hn] at h1
  have hg := (h1.lt g rfl).1
  have h2 := (h1.stored (j * 4) (.int .i64 r.x)).1
  have h3 := (h2.stored (j * 4 + 1) (.int .i64 r.y)).1
  have h4 := (h3.stored (j * 4 + 2) (.int .i64 r.w)).1
  have h5 := (h4.stored (j * 4 + 3) (.int .i64 r.h)).1
  exact ⟨by rw [List.length_set, hn, rccs_set (by omega)]; exact h5, below_sto h.bel hg _ _⟩
theorem OwC.fz {w u : World} {g n c : Nat} {l : List Rc} (h : OwC w u (.slice (some ⟨g, 0, none⟩) n c) l) (hn : l.length = n) (k : Nat) : u.frozen? ⟨g, k, none⟩ = false := by
  have h1 := h.own
  rw [hn] at h1
  exact h1.frozenAt k
theorem OwC.el {w u : World} {g n c : Nat} {l : List Rc} (h : OwC w u (.slice (some ⟨g, 0, none⟩) n c) l) (hn : l.length = n) : g < u.heap.size ∧ w.heap.size ≤ g ∧ ∀ j r, l[j]? = some r → El u g (j * 4) r := by
  have h1 := h.own
  rw [hn] at h1
  obtain ⟨g1, g2, g3⟩ := el_of_owns h1
  exact ⟨g1, g2, fun j r hr => by have := g3 j r hr; rwa [Nat.zero_add] at this⟩

/-- Those that have points. -/
def flt (l : List Rc) : List Rc := l.filter fun r => !emp r

/-- DeleteFunc's state. -/
structure Dl (l L : List Rc) (i j : Nat) : Prop where
  len : L.length = l.length
  ij : i < j
  fst : L.take i = flt (l.take j)
  snd : L.drop j = l.drop j
theorem Dl.skip {l L : List Rc} {i j : Nat} (h : Dl l L i j) {r : Rc} (hr : l[j]? = some r) (he : emp r = true) : Dl l L i (j + 1) := by
  refine ⟨h.len, by have := h.ij; omega, ?_, ?_⟩
  · rw [h.fst, flt, flt, List.take_add_one, hr, List.filter_append]
    simp [he]
  · have := congrArg List.tail h.snd
    simpa using this
theorem Dl.keep {l L : List Rc} {i j : Nat} (h : Dl l L i j) {r : Rc} (hr : l[j]? = some r) (he : emp r = false) : Dl l (L.set i r) (i + 1) (j + 1) := by
  have hij := h.ij
  have hj : j < l.length := (List.getElem?_eq_some_iff.1 hr).1
  have hl := h.len
  refine ⟨by rw [List.length_set]; exact hl, by omega, ?_, ?_⟩
  · have e : (L.set i r).take (i + 1) = L.take i ++ [r] := by
      rw [List.take_add_one, List.take_set_of_le (Nat.le_refl _), List.getElem?_set_self (by omega)]
      rfl
    rw [e, h.fst, flt, flt, List.take_add_one, hr, List.filter_append]
    simp [he]
  · rw [List.drop_set_of_lt (by omega)]
    have := congrArg List.tail h.snd
    simpa using this
theorem flt_none {l : List Rc} (h : ∀ (k : Nat) (r : Rc), l[k]? = some r → emp r = false) : flt l = l := by
  refine filter_whole fun r hr => ?_
  obtain ⟨k, hk⟩ := List.mem_iff_getElem?.1 hr
  rw [h k r hk]
  rfl
theorem idx_some {p : Rc → Bool} : ∀ {l : List Rc} {k : Nat}, idx p l = some k → (∃ r, l[k]? = some r ∧ p r = true) ∧ ∀ j r, j < k → l[j]? = some r → p r = false
  | [], k, h => by simp [idx] at h
  | x :: l, k, h => by
    rw [idx] at h
    split at h
    · rename_i hx
      cases h
      exact ⟨⟨x, rfl, hx⟩, fun j r hj => absurd hj (by omega)⟩
    · rename_i hx
      obtain ⟨m, hm, rfl⟩ := Option.map_eq_some_iff.1 h
      obtain ⟨⟨r, hr, hp⟩, h2⟩ := idx_some hm
      refine ⟨⟨r, by rw [List.getElem?_cons_succ]; exact hr, hp⟩, fun j r hj hr => ?_⟩
      cases j with
      | zero => simp at hr; subst hr; simpa using hx
      | succ j => rw [List.getElem?_cons_succ] at hr; exact h2 j r (by omega) hr
theorem idx_none {p : Rc → Bool} : ∀ {l : List Rc}, idx p l = none → ∀ (j : Nat) r, l[j]? = some r → p r = false
  | [], _, j, r, hr => by simp at hr
  | x :: l, h, j, r, hr => by
    rw [idx] at h
    split at h
    · cases h
    · rename_i hx
      cases j with
      | zero => simp at hr; subst hr; simpa using hx
      | succ j => rw [List.getElem?_cons_succ] at hr; exact idx_none (by simpa using h) j r hr
theorem Dl.start {l : List Rc} {k : Nat} (h : idx emp l = some k) : Dl l l k (k + 1) := by
  obtain ⟨⟨r, hr, hp⟩, h2⟩ := idx_some h
  refine ⟨rfl, by omega, ?_, rfl⟩
  rw [flt, List.take_add_one, hr, List.filter_append]
  have : (l.take k).filter (fun r => !emp r) = l.take k := filter_whole fun x hx => by
    obtain ⟨j, hj⟩ := List.mem_iff_getElem?.1 hx
    have hjk : j < k := by
      have := (List.getElem?_eq_some_iff.1 hj).1
      rw [List.length_take] at this
      omega
    rw [List.getElem?_take_of_lt hjk] at hj
    rw [h2 j x hjk hj]
    rfl
  rw [this]
  simp [hp]

end Go.Proofs.Ytlkodgmnhphfcaa
