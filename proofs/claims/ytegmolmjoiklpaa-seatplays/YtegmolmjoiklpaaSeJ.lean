/- Rows of surfaces of a law's own. -/
import Derived.Test.YtegmolmjoiklpaaSeI
namespace Go.Proofs.Ytegmolmjoiklpaa
open Go Go.RowKit Go.Shelf

/-- The cells of surfaces. -/
def hcs (l : List Ht) : List Value := l.flatMap fun h => (htv h).toList
theorem hcs_append (a b : List Ht) : hcs (a ++ b) = hcs a ++ hcs b := by simp [hcs]
theorem hcs_length (l : List Ht) : (hcs l).length = l.length * 7 := by
  induction l with
  | nil => rfl
  | cons x l ih =>
    rw [hcs, List.flatMap_cons, List.length_append, List.length_cons]
    show 7 + (hcs l).length = _
    omega
theorem hcs_at {l : List Ht} {j : Nat} {h : Ht} (hj : l[j]? = some h) {i : Nat} {v : Value} (hi : (htv h)[i]? = some v) : (hcs l)[j * 7 + i]? = some v := by
  induction l generalizing j with
  | nil => simp at hj
  | cons x l ih =>
    have hc : hcs (x :: l) = (htv x).toList ++ hcs l := rfl
    rw [hc]
    cases j with
    | zero =>
      simp only [List.getElem?_cons_zero, Option.some.injEq] at hj
      subst hj
      have : i < (htv x).toList.length := by simpa using (Array.getElem?_eq_some_iff.1 hi).1
      rw [Nat.zero_mul, Nat.zero_add, List.getElem?_append_left this]
      simpa using hi
    | succ j =>
      have h7 : (htv x).toList.length = 7 := rfl
      rw [List.getElem?_append_right (by rw [h7]; omega), h7, show (j + 1) * 7 + i - 7 = j * 7 + i by omega]
      exact ih (by simpa using hj)
theorem htv_one (h : Ht) : ∀ u ∈ (htv h).toList, u.oneCell' = true := by
  intro u hu
  simp only [htv, List.mem_cons, List.not_mem_nil, or_false] at hu
  rcases hu with rfl | rfl | rfl | rfl | rfl | rfl | rfl <;> rfl

/-- A surface's region, in memory that holds rectangles alone. -/
structure Rg (u : World) (h : Ht) : Prop where
  rd : RdM 4 u h.a h.n h.c h.l
  ty : ∀ x, h.a = some x → 0 < h.n → ∃ cs f, u.heap[x.block]? = some (.cells cs 59 f)
  ok : h.Ok
theorem Rg.kp {X : List Nat} {u u' : World} {h : Ht} (g : Rg u h) (hk : Kp X u u') (hX : ∀ x, h.a = some x → 0 < h.n → x.block ∉ X) : Rg u' h :=
  ⟨g.rd.kp hk hX, fun x hx hn => by
    obtain ⟨cs, f, e⟩ := g.ty x hx hn
    exact ⟨cs, f, hk.var e (hX x hx hn)⟩, g.ok⟩
theorem Rg.on {u u' : World} {h : Ht} (g : Rg u h) (hb : Below u.heap.size u u') : Rg u' h := g.kp (kp_of_below hb []) (fun _ _ _ hm => by cases hm)

theorem Rg.grown {u u' : World} {h : Ht} {base n : Nat} {v : Value} {xs : List Value} (g : Rg u h) (ho : u.ownsRow base 61 7 v n xs) (hg : u.grownBy u' v.ownBlock) : Rg u' h :=
  g.kp (kp_of_grown hg) (fun x hx hn hm => by
    obtain ⟨cs, f, e⟩ := g.ty x hx hn
    exact own_not ho e (by decide) (by simpa using hm))
/-- A row of surfaces of the call's own. -/
structure OwH (w u : World) (v : Value) (l : List Ht) : Prop where
  own : u.ownsRow w.heap.size 61 7 v l.length (hcs l)
  bel : Below w.heap.size w u
  reg : ∀ h ∈ l, Rg u h
theorem OwH.nil (w : World) : OwH w w (.slice none 0 0) [] := ⟨World.ownsRow_nil _ _ _ _, Below.refl _ _, by simp⟩
theorem OwH.on {w u u' : World} {v : Value} {l : List Ht} (h : OwH w u v l) (hb : Below u.heap.size u u') : OwH w u' v l := ⟨ownsRow_below h.own hb, Below.on h.bel hb, fun x hx => (h.reg x hx).on hb⟩
theorem OwH.more {w u u' : World} {v v' : Value} {l : List Ht} {x : Ht} {o : Obj} (h : OwH w u v l) (hx : Rg u x) (o2 : u'.ownsRow w.heap.size 61 7 v' (l.length + 1) (hcs l ++ (htv x).toList)) (g : (u.alloc o).grownBy u' v.ownBlock) : OwH w u' v' (l ++ [x]) := by
  have hb := bel_nw u o
  have h1 := h.on hb
  refine ⟨by rw [List.length_append, hcs_append]; simpa [hcs] using o2, h1.bel.grown g h1.bel.size (fun k hk => (h1.own.lt k hk).1), fun y hy => ?_⟩
  rcases List.mem_append.1 hy with hy | hy
  · exact (h1.reg y hy).grown h1.own g
  · simp only [List.mem_cons, List.not_mem_nil, or_false] at hy
    subst hy
    exact (hx.on hb).grown h1.own g
theorem OwH.rd {w u : World} {v : Value} {l : List Ht} (h : OwH w u v l) : ∃ a c, v = .slice a l.length c ∧ RdH u a l.length c l ∧ ∀ x, a = some x → w.heap.size ≤ x.block ∧ x.block < u.heap.size := by
  rcases h.own.2 with ⟨rfl, h0⟩ | ⟨g, cap, cur, rfl, hb, hg, hn, hm, _, _⟩
  · have hl := List.eq_nil_of_length_eq_zero h0
    subst hl
    exact ⟨none, 0, rfl, RdH.nil u, fun x hx => by cases hx⟩
  · refine ⟨some ⟨g, 0, none⟩, cap, rfl, ⟨rfl, hn, hm, (fun h => by cases h), fun _ => ⟨g, 0, rfl, (h.own.lt g rfl).2, fun j y hy => ?_⟩, fun y hy => (h.reg y hy).rd, fun y hy => (h.reg y hy).ok⟩, fun x hx => ?_⟩
    · have hj : j < l.length := (List.getElem?_eq_some_iff.1 hy).1
      have hc : ∀ i v, (htv y)[i]? = some v → i < 7 → u.cell? ⟨g, 0 + j * 7 + i, none⟩ = some v := fun i v hi hi7 => by
        rw [Nat.zero_add, h.own.cellAt _ (by omega)]
        exact hcs_at hy hi
      exact ⟨by have := hc 0 (.int .i64 y.s) rfl (by omega); rwa [Nat.add_zero] at this, hc 1 _ rfl (by omega), hc 2 _ rfl (by omega), hc 3 _ rfl (by omega), hc 4 _ rfl (by omega), hc 5 _ rfl (by omega), hc 6 _ rfl (by omega)⟩
    · cases hx
      exact ⟨hb, (Array.getElem?_eq_some_iff.1 hg).1⟩
theorem infoHit : (Try.prog.info? 61).map (fun i => (i.zero, i.size, i.bytes)) = some (some (.agg #[.int .i64 0, .int .i64 0, .int .i64 0, .int .i64 0, .int .i64 0, .bool false, .slice none 0 0]), 7, 72) := by kernel_rfl
theorem src_hit (U : World) (h : Ht) : Src Try.prog 7 39 (.slice (some ⟨U.heap.size, 0, none⟩) 1 1) 1 (htv h).toList (U.alloc (.cells (htv h) 61)) := by
  refine Src.ofSlice _ Try.underlying39 ⟨U.heap.size, 0, none⟩ 1 1 (htv h).toList rfl (fun j u hu => ?_) (htv_one h)
  rw [Go.WideShapes.add_plain, Nat.zero_add, Lib.cell_of_heap (hp_nw U (.cells (htv h) 61) rfl)]
  simpa using hu
theorem fits72 {need : Nat} (h : need ≤ 1000000000) : ∀ old, old < need → Builtin.nextslicecap need old * 72 ≤ 281474976710656 := fun old ho => by
  have h1 := nextslicecap_near ho
  omega
/-- One more on top. -/
theorem atL_more (l : List Ht) (h : Ht) (x y : Int) : atL (l ++ [h]) x y = if h.hit x y = true then (h.s, x - h.x, y - h.y) else atL l x y := by
  rw [atL, List.reverse_append]
  rfl
end Go.Proofs.Ytegmolmjoiklpaa
