/- A uses of one's own, call by call; SameInts; awake. -/
import Derived.Test.YtmihmajhfoghpaaUseC
import Derived.BigQuiet
namespace Go.Proofs.Ytmihmajhfoghpaa
open Go Go.RowKit

/-- A slice whose first n cells are the numbers l. -/
structure RdZ (w : World) (a : Option Addr) (n : Nat) (l : List Int) : Prop where
  len : l.length = n
  hnil : a = none → n = 0
  cells : ∀ x, a = some x → ∃ g, x = ⟨g, 0, none⟩ ∧ g < w.heap.size ∧ ∀ j z, l[j]? = some z → w.cell? ⟨g, j, none⟩ = some (.int .i64 z)

theorem RdZ.on {w u : World} {a : Option Addr} {n : Nat} {l : List Int} (h : RdZ w a n l) (hb : Below w.heap.size w u) : RdZ u a n l :=
  ⟨h.len, h.hnil, fun x hx => by
    obtain ⟨g, h1, h2, h3⟩ := h.cells x hx
    exact ⟨g, h1, Nat.lt_of_lt_of_le h2 hb.size, fun j z hz => by rw [hb.cell h2]; exact h3 j z hz⟩⟩
theorem rdz_nil (w : World) : RdZ w none 0 [] := ⟨rfl, fun _ => rfl, fun _ h => by cases h⟩
theorem rdz_of {w : World} {base e n : Nat} {v : Value} {zs : List Int} (h : w.ownsRow base e 1 v n (zs.map encZ)) : ∃ a c, v = .slice a n c ∧ RdZ w a n zs := by
  obtain ⟨a, c, rfl, hl, hle, _, hn, hc⟩ := ints_of_owns h
  exact ⟨a, c, rfl, hl, (fun h0 => by have := hn h0; omega), fun x hx => by
    obtain ⟨g, h1, _, h2, h3⟩ := hc x hx
    exact ⟨g, h1, h2, h3⟩⟩

set_option maxRecDepth 100000 in
set_option maxHeartbeats 1000000 in
theorem same_any (a : Option Addr) (n c : Nat) (a' : Option Addr) (c' : Nat) (l : List Int) (w : World) (hr : RdZ w a n l) (hr' : RdZ w a' n l) (hn : n ≤ 1000000) :
    Calls Try.prog 8 #[.slice a n c, .slice a' n c'] w fun e w' => e = .returned (.bool true) ∧ Below w.heap.size w w' := by
  have HR := hid hr
  have HR' := hid hr'
  have n1 : ((n : Int) != n) = false := by simp
  clear hr hr'
  go_enter Try.func8, Try.ntmps8
  go_wp2
  go_loopw [5] (fun i wr => ∃ j : Nat, j ≤ n ∧ i = .int .i64 j ∧ ∃ r, wr = w.drewN r) (fun i _ => n - (numOf i).toNat)
  case atStart => exact ⟨0, Nat.zero_le _, rfl, 0, rfl⟩
  case round =>
    obtain ⟨j, hj, rfl, r, rfl⟩ := hrel
    by_cases hlt : j < n
    · obtain ⟨x, rfl⟩ : ∃ x, a = some x := by
        cases a with
        | none => have := HR.out.hnil rfl; omega
        | some x => exact ⟨x, rfl⟩
      obtain ⟨x', rfl⟩ : ∃ x, a' = some x := by
        cases a' with
        | none => have := HR'.out.hnil rfl; omega
        | some x => exact ⟨x, rfl⟩
      obtain ⟨g, rfl, hg, hc⟩ := HR.out.cells x rfl
      obtain ⟨g', rfl, hg', hc'⟩ := HR'.out.cells x' rfl
      have hlen := HR.out.len
      obtain ⟨z, hz⟩ : ∃ z, l[j]? = some z := ⟨_, List.getElem?_eq_getElem (by omega)⟩
      have c0 := hc j z hz
      have d0 := hc' j z hz
      have n2 : (z != z) = false := by simp
      clear hz hc hc' hlen
      have hlt' : (j : Int) < n := by omega
      go_wp2
      go_quiet (fail)
      go_wp2
      go_roundw
      case rel => exact ⟨j + 1, by omega, by go_num, _, rfl⟩
      case measure => simp [numOf]; omega
    · go_wp2
      go_ret
      exact ⟨rfl, below_drewN (Below.refl _ _) _⟩

/-- A slice of numbers, in a world that has only grown since. -/
theorem RdI.on {k : IntKind} {w x : World} {a : Option Addr} {n c : Nat} {zs : List Int} (h : RdI k w a n c zs) (hb : Below w.heap.size w x) : RdI k x a n c zs :=
  ⟨h.len, h.le, h.max, h.hnil, fun y hy j hj => by
    obtain ⟨b, off, e, hbl, _⟩ := h.plain (by omega)
    have hc := h.cells y hy j hj
    rw [hy] at e
    cases e
    rw [Go.WideShapes.add_plain] at hc ⊢
    rw [hb.cell hbl]
    exact hc, h.wf⟩

theorem ownsRow_heap {x y : World} {base e size n : Nat} {v : Value} {xs : List Value} (h : x.ownsRow base e size v n xs) (hb : ∀ k, v.ownBlock = some k → y.heap[k]? = x.heap[k]?) : y.ownsRow base e size v n xs := by
  refine ⟨h.1, ?_⟩
  rcases h.2 with q | ⟨g, cap, cur, rfl, e2, e3, e4⟩
  · exact .inl q
  · exact .inr ⟨g, cap, cur, rfl, e2, by rw [hb g rfl]; exact e3, e4⟩

/-- A uses that a call made, and the world since; blocks of K are none of its own. -/
structure Us (w x : World) (p : Nat) (L told : List Int) (K : List Nat) : Prop where
  ex : ∃ a b, Ust x p a b L told ∧ w.heap.size ≤ p ∧ w.heap.size ≤ a ∧ w.heap.size ≤ b ∧ ∀ k ∈ K, k < x.heap.size ∧ k ≠ p ∧ k ≠ a ∧ k ≠ b
  bel : Below w.heap.size w x
  nl : L.length ≤ 1000000
  nt : told.length ≤ 1000000000

variable {w x y : World} {p : Nat} {L told zs : List Int} {K : List Nat}

theorem Us.on (h : Us w x p L told K) (hb : Below x.heap.size x y) : Us w y p L told K := by
  obtain ⟨a, b, h1, h2, h3, h4, h5⟩ := h.ex
  exact ⟨⟨a, b, h1.on hb, h2, h3, h4, fun k hk => ⟨Nat.lt_of_lt_of_le (h5 k hk).1 hb.size, (h5 k hk).2⟩⟩, Below.on h.bel hb, h.nl, h.nt⟩
theorem Us.drop (h : Us w x p L told K) {J : List Nat} (hJ : ∀ k ∈ J, k ∈ K) : Us w x p L told J := by
  obtain ⟨a, b, h1, h2, h3, h4, h5⟩ := h.ex
  exact ⟨⟨a, b, h1, h2, h3, h4, fun k hk => h5 k (hJ k hk)⟩, h.bel, h.nl, h.nt⟩
/-- A block that is new is none of its own. -/
theorem Us.more (h : Us w x p L told K) (hb : Below x.heap.size x y) {J : List Nat} (hJ : ∀ k ∈ J, x.heap.size ≤ k ∧ k < y.heap.size) : Us w y p L told (J ++ K) := by
  obtain ⟨a, b, h1, h2, h3, h4, h5⟩ := h.ex
  have hl := h1.lt
  refine ⟨⟨a, b, h1.on hb, h2, h3, h4, fun k hk => ?_⟩, Below.on h.bel hb, h.nl, h.nt⟩
  rcases List.mem_append.1 hk with hk | hk
  · have := hJ k hk
    exact ⟨this.2, by omega, by omega, by omega⟩
  · exact ⟨Nat.lt_of_lt_of_le (h5 k hk).1 hb.size, (h5 k hk).2⟩
theorem usnew (w0 w : World) (h0 : Below w0.heap.size w0 w) : Calls Try.prog 6 #[] w fun e y => e = .returned (.pointer (some ⟨w.heap.size + 2, 0, none⟩)) ∧ Us w0 y (w.heap.size + 2) [] [] [] := by
  refine (unew_any w).mono ?_
  rintro e y ⟨rfl, hb, hM⟩
  have := h0.size
  exact ⟨rfl, ⟨_, _, hM, by omega, by omega, by omega, fun _ h => by cases h⟩, Below.on h0 hb, by decide, by decide⟩

/-- What Now answers. -/
def UsNow (w x : World) (p : Nat) (K : List Nat) (G : List Int) (L' told' : List Int) (e : Ending) (y : World) : Prop :=
  ∃ v, e = .returned v ∧ y.ownsRow x.heap.size 3 1 v G.length (G.map encZ) ∧ Us w y p L' told' (v.ownBlock.toList ++ K) ∧ (∀ k ∈ K, y.heap[k]? = x.heap[k]?) ∧ x.heap.size ≤ y.heap.size

theorem Us.now (h : Us w x p L told K) (s : Option Addr) (n c : Nat) (zs : List Int) (hr : RdI .i64 x s n c zs) (hn : n ≤ 1000000) (ht : told.length ≤ 999000000) (G L' told' : List Int) (hG : gone L zs = G) (hL : setOf zs = L') (hT : told ++ G = told') :
    Calls Try.prog 9 #[.pointer (some ⟨p, 0, none⟩), .slice s n c] x fun e y => UsNow w x p K G L' told' e y := by
  subst hG hL hT
  obtain ⟨a, b, h1, h2, h3, h4, h5⟩ := h.ex
  have hl := h1.lt
  refine (unow_any h1 s n c zs hr hn h.nl h.nt).mono ?_
  rintro e y ⟨v, rfl, hv, ⟨a', ha', hU⟩, hk⟩
  have hs := h.bel.size
  refine ⟨v, rfl, hv, ⟨⟨a', b, hU, h2, by omega, h4, fun k hk' => ?_⟩, h.bel.trans (hk.below hs (fun k hm => by
    simp only [List.mem_cons, List.not_mem_nil, or_false] at hm
    omega)), ?_, ?_⟩, fun k hk' => ?_, hk.size⟩
  · rcases List.mem_append.1 hk' with hk' | hk'
    · have hkv : v.ownBlock = some k := by simpa using hk'
      have hlt := hv.lt k hkv
      refine ⟨hlt.2, by omega, fun e => ?_, by omega⟩
      obtain ⟨D, ho, _⟩ := hU.hown
      obtain ⟨es, clock, hb, _⟩ := ho
      rcases hv.2 with ⟨rfl, _⟩ | ⟨g, cap, cur, rfl, _, hg, _⟩
      · cases hkv
      · simp only [Value.ownBlock, Option.some.injEq] at hkv
        subst hkv e
        rw [hb] at hg
        cases hg
    · have := h5 k hk'
      have := hk.size
      exact ⟨by omega, by omega, by omega, by omega⟩
  · exact Nat.le_trans (setOf_length zs) (by rw [hr.len]; exact hn)
  · rw [List.length_append]
    have := gone_length L zs
    have := h.nl
    omega
  · have := h5 k hk'
    exact hk.block k this.1 (by simp; omega)
theorem Us.held (h : Us w x p L told K) :
    Calls Try.prog 12 #[.pointer (some ⟨p, 0, none⟩)] x fun e y => ∃ v, e = .returned v ∧ y.ownsRow x.heap.size 3 1 v L.length (L.map encZ) ∧ Us w y p L told (v.ownBlock.toList ++ K) ∧ Below x.heap.size x y := by
  obtain ⟨a, b, h1, _⟩ := h.ex
  refine (uheld_any h1 h.nl).mono ?_
  rintro e y ⟨v, rfl, hv, hb⟩
  exact ⟨v, rfl, hv, h.more hb (fun k hk => hv.lt k (by simpa using hk)), hb⟩
theorem Us.times (h : Us w x p L told K) (id : Int) (hi : I64 id) :
    Calls Try.prog 13 #[.pointer (some ⟨p, 0, none⟩), .int .i64 id] x fun e y => e = .returned (.int .i64 (told.count id : Nat)) ∧ y = x := by
  obtain ⟨a, b, h1, _⟩ := h.ex
  exact utimes_any h1 id hi

theorem rdi_lit {x : World} {g : Nat} {zs : List Int} {fr : Nat × Nat} (h : x.heap[g]? = some (.cells (zs.map encZ).toArray 3 fr)) (hz : ∀ z ∈ zs, I64 z) (hn : zs.length ≤ maxLen) : RdI .i64 x (some ⟨g, 0, none⟩) zs.length zs.length zs :=
  ⟨rfl, Nat.le_refl _, hn, (fun h => by cases h), fun y hy j hj => by
    cases hy
    rw [Go.WideShapes.add_plain, Nat.zero_add, Lib.cell_of_heap h, List.getElem?_toArray, List.getElem?_map, List.getD, List.getElem?_eq_getElem hj]
    rfl, fun z h => wf64 (hz z h)⟩

set_option maxRecDepth 100000 in
set_option maxHeartbeats 1000000 in
theorem uawake_any (w : World) : Calls Try.prog 7 #[] w fun e w' => e = .returned (.bool true) ∧ Below w.heap.size w w' := by
  go_enter Try.func7, Try.ntmps7
  go_wp2_with fail
  refine (usnew w w (Below.refl _ _)).mono ?_
  rintro e w1 ⟨rfl, hU⟩
  have HU := hid hU
  clear hU
  generalize w.heap.size + 2 = p at HU ⊢
  go_wp2_with fail
  have hb1 : Below w1.heap.size w1 (w1.alloc (.cells #[.int .i64 3, .int .i64 5] 3)) := (Below.refl _ _).alloc (Nat.le_refl _) _
  have hU1 := HU.out.on hb1
  refine (hU1.now _ 2 2 [3, 5] (rdi_lit (zs := [3, 5]) (heap_alloc_new w1 _) (by decide) (by decide)) (by decide) (by decide) [] [3, 5] [] rfl (setOf_eq (by decide) (fun z => by simp; omega)) rfl).mono ?_
  rintro e w2 ⟨v1, rfl, hv1, hU2, -, -⟩
  obtain ⟨a1, c1, rfl, -, -, -, -, -⟩ := ints_of_owns hv1
  have HU2 := hid hU2
  clear HU hU1 hb1 hv1 hU2
  go_wp2_with fail
  have hb1 : Below w2.heap.size w2 (w2.alloc (.cells #[.int .i64 5] 3)) := (Below.refl _ _).alloc (Nat.le_refl _) _
  have hU1 := HU2.out.on hb1
  refine (hU1.now _ 1 1 [5] (rdi_lit (zs := [5]) (heap_alloc_new w2 _) (by decide) (by decide)) (by decide) (by decide) [3] [5] [3] rfl (setOf_eq (by decide) (fun z => by simp; omega)) rfl).mono ?_
  rintro e w3 ⟨v2, rfl, hv2, hU2, -, -⟩
  obtain ⟨a2, c2, rfl, -, hle, hmx, hnil, hc⟩ := ints_of_owns hv2
  have HU3 := hid hU2
  obtain ⟨y, rfl⟩ : ∃ y, a2 = some y := by
    cases a2 with
    | none => have := hnil rfl; simp at hle; omega
    | some y => exact ⟨y, rfl⟩
  obtain ⟨g, rfl, -, hg, hcc⟩ := hc y rfl
  have c0 := hcc 0 3 rfl
  simp only [maxLen] at hmx
  have HBL := hid hU2.bel
  clear HU2 hU1 hb1 hv2 hU2 hnil hc hcc
  go_wp2_with fail
  refine (HU3.out.times 3 (by decide)).mono ?_
  rintro e w4 ⟨rfl, rfl⟩
  go_wp2_with fail
  go_ret
  exact ⟨rfl, HBL.out⟩
end Go.Proofs.Ytmihmajhfoghpaa
