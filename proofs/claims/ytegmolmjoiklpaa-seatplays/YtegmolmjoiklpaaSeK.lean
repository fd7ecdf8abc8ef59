/- The law's few: the document's lists of surfaces as the program's. -/
import Derived.Test.YtegmolmjoiklpaaOpn20
import Derived.Test.YtegmolmjoiklpaaLibH
import Derived.Deep.CutBlock
import Derived.Deep.DeepCutAuto
namespace Go.Proofs.Ytegmolmjoiklpaa
open Go Go.RowKit Go.Shelf

/-- A surface without the place of its region's list. -/
def Ht.cl (h : Ht) : Ht := { h with a := none, n := 0, c := 0 }
theorem hit_cl (h : Ht) (x y : Int) : h.cl.hit x y = h.hit x y := rfl
theorem atR_cl : ∀ {l m : List Ht}, l.map Ht.cl = m.map Ht.cl → ∀ x y : Int, atR l x y = atR m x y
  | [], [], _, _, _ => rfl
  | [], _ :: _, h, _, _ => by cases h
  | _ :: _, [], h, _, _ => by cases h
  | a :: l, b :: m, h, x, y => by
    rw [List.map_cons, List.map_cons, List.cons.injEq] at h
    have e1 : a.hit x y = b.hit x y := by rw [← hit_cl a, ← hit_cl b, h.1]
    have e2 : a.s = b.s := (congrArg Ht.s h.1 : a.cl.s = b.cl.s)
    have e3 : a.x = b.x := (congrArg Ht.x h.1 : a.cl.x = b.cl.x)
    have e4 : a.y = b.y := (congrArg Ht.y h.1 : a.cl.y = b.cl.y)
    rw [atR, atR, e1, e2, e3, e4, atR_cl h.2 x y]
theorem atL_cl {l m : List Ht} (h : l.map Ht.cl = m.map Ht.cl) (x y : Int) : atL l x y = atL m x y :=
  atR_cl (by rw [List.map_reverse, List.map_reverse, h]) x y

/-- A list of surfaces that a call made. -/
structure Rh (u : World) (r : Rw) : Prop where
  rd : RdH u r.a r.n r.c r.l
  ty : ∀ x, r.a = some x → 0 < r.n → ∃ cs f, u.heap[x.block]? = some (.cells cs 61 f)
  reg : ∀ h ∈ r.l, Rg u h
theorem Rh.kp {X : List Nat} {u u' : World} {r : Rw} (g : Rh u r) (hk : Kp X u u') (hX : ∀ (k T : Nat) (cs : Array Value) (f : Nat × Nat), u.heap[k]? = some (.cells cs T f) → (T = 61 ∨ T = 59) → k ∉ X) : Rh u' r := by
  have q1 : ∀ x, r.a = some x → 0 < r.n → x.block ∉ X := fun x hx hn => by
    obtain ⟨cs, f, e⟩ := g.ty x hx hn
    exact hX _ _ _ _ e (.inl rfl)
  have q2 : ∀ h ∈ r.l, ∀ x, h.a = some x → 0 < h.n → x.block ∉ X := fun h hh x hx hn => by
    obtain ⟨cs, f, e⟩ := (g.reg h hh).ty x hx hn
    exact hX _ _ _ _ e (.inr rfl)
  exact ⟨g.rd.kp hk ⟨q1, q2⟩, fun x hx hn => by
    obtain ⟨cs, f, e⟩ := g.ty x hx hn
    exact ⟨cs, f, hk.var e (q1 x hx hn)⟩, fun h hh => (g.reg h hh).kp hk (q2 h hh)⟩
theorem Rh.on {u u' : World} {r : Rw} (g : Rh u r) (hb : Below u.heap.size u u') : Rh u' r := g.kp (kp_of_below hb []) (fun _ _ _ _ _ _ hm => by cases hm)
theorem OwH.rh {w u : World} {v : Value} {l : List Ht} (h : OwH w u v l) : ∃ a c, v = .slice a l.length c ∧ Rh u ⟨a, l.length, c, l⟩ := by
  obtain ⟨a, c, e, hr, _⟩ := h.rd
  refine ⟨a, c, e, hr, fun x hx hn => ?_, h.reg⟩
  rcases h.own.2 with ⟨e2, h0⟩ | ⟨g, cap, cur, e2, _, hg, _⟩
  · simp only at hn
    omega
  · rw [e] at e2
    simp only [Value.slice.injEq] at e2
    simp only at hx
    rw [e2.1] at hx
    cases hx
    exact ⟨_, _, hg⟩
/-- Lists' cells. -/
def rwc (L : List Rw) : List Value := L.map fun r => .slice r.a r.n r.c
/-- A row of lists of the call's own. -/
structure OwR (w u : World) (v : Value) (L : List Rw) : Prop where
  own : u.ownsRow w.heap.size 39 1 v L.length (rwc L)
  bel : Below w.heap.size w u
  rd : ∀ r ∈ L, Rh u r
theorem OwR.nil (w : World) : OwR w w (.slice none 0 0) [] := ⟨World.ownsRow_nil _ _ _ _, Below.refl _ _, by simp⟩
theorem OwR.on {w u u' : World} {v : Value} {L : List Rw} (h : OwR w u v L) (hb : Below u.heap.size u u') : OwR w u' v L := ⟨ownsRow_below h.own hb, Below.on h.bel hb, fun x hx => (h.rd x hx).on hb⟩
theorem OwR.more {w u u' : World} {v v' : Value} {L : List Rw} {x : Rw} {o : Obj} (h : OwR w u v L) (hx : Rh u x) (o2 : u'.ownsRow w.heap.size 39 1 v' (L.length + 1) (rwc L ++ [.slice x.a x.n x.c])) (g : (u.alloc o).grownBy u' v.ownBlock) : OwR w u' v' (L ++ [x]) := by
  have hb := bel_nw u o
  have h1 := h.on hb
  have hX : ∀ (k T : Nat) (cs : Array Value) (f : Nat × Nat), (u.alloc o).heap[k]? = some (.cells cs T f) → (T = 61 ∨ T = 59) → k ∉ v.ownBlock.toList := fun k T cs f e hT hm => own_not h1.own e (by rcases hT with rfl | rfl <;> decide) (by simpa using hm)
  refine ⟨by rw [List.length_append]; simpa [rwc] using o2, h1.bel.grown g h1.bel.size (fun k hk => (h1.own.lt k hk).1), fun y hy => ?_⟩
  rcases List.mem_append.1 hy with hy | hy
  · exact (h1.rd y hy).kp (kp_of_grown g) hX
  · simp only [List.mem_cons, List.not_mem_nil, or_false] at hy
    subst hy
    exact (hx.on hb).kp (kp_of_grown g) hX
theorem rwc_at {L : List Rw} {j : Nat} {r : Rw} (h : L[j]? = some r) : (rwc L)[j]? = some (.slice r.a r.n r.c) := by rw [rwc, List.getElem?_map, h]; rfl
theorem OwR.rdr {w u : World} {v : Value} {L : List Rw} (h : OwR w u v L) : ∃ a c, v = .slice a L.length c ∧ RdR u a L.length c L := by
  rcases h.own.2 with ⟨rfl, h0⟩ | ⟨g, cap, cur, rfl, hb, hg, hn, hm, _, _⟩
  · have hl := List.eq_nil_of_length_eq_zero h0
    subst hl
    exact ⟨none, 0, rfl, rfl, Nat.le_refl _, Nat.zero_le _, fun _ => rfl, fun h => absurd h (by simp), by simp⟩
  · refine ⟨some ⟨g, 0, none⟩, cap, rfl, rfl, hn, hm, (fun h => by cases h), fun _ => ⟨g, 0, rfl, (h.own.lt g rfl).2, fun j r hr => ?_⟩, fun r hr => (h.rd r hr).rd⟩
    have hj : j < L.length := (List.getElem?_eq_some_iff.1 hr).1
    rw [Nat.zero_add, h.own.cellAt _ (by omega)]
    exact rwc_at hr
theorem infoHits : (Try.prog.info? 39).map (fun i => (i.zero, i.size, i.bytes)) = some (some (.slice none 0 0), 1, 24) := by kernel_rfl
theorem src_row (U : World) (a : Option Addr) (n c : Nat) : Src Try.prog 1 24 (.slice (some ⟨U.heap.size, 0, none⟩) 1 1) 1 [.slice a n c] (U.alloc (.cells #[.slice a n c] 39)) := by
  refine Src.ofSlice _ Try.underlying24 ⟨U.heap.size, 0, none⟩ 1 1 [.slice a n c] rfl (fun j u hu => ?_) (fun u hu => ?_)
  · rw [Go.WideShapes.add_plain, Nat.zero_add, Lib.cell_of_heap (hp_nw U (.cells #[.slice a n c] 39) rfl)]
    simpa using hu
  · simp only [List.mem_cons, List.not_mem_nil, or_false] at hu
    subst hu
    rfl
end Go.Proofs.Ytegmolmjoiklpaa
