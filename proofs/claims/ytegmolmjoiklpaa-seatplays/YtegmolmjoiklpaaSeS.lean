/- Both seats beside one another. -/
import Derived.Test.YtegmolmjoiklpaaSeR
namespace Go.Proofs.Ytegmolmjoiklpaa
open Go Go.RowKit Go.Shelf

/-- The program's seat in g, the document's in q. -/
structure Bs (w0 u : World) (g q : Nat) (x y P K x' y' P' K' : Int) : Prop where
  sw : Sw w0 u g x y P K
  de : De u q x' y' P' K'
  nq : w0.heap.size ≤ q
  ne : g ≠ q
theorem Bs.on {w0 u v : World} {g q : Nat} {x y P K x' y' P' K' : Int} (h : Bs w0 u g q x y P K x' y' P' K') (hb : Below u.heap.size u v) : Bs w0 v g q x y P K x' y' P' K' := ⟨h.sw.on hb, h.de.on hb, h.nq, h.ne⟩
theorem Bs.prog {w0 u v : World} {g q : Nat} {x y P K x' y' P' K' a b c d : Int} (h : Bs w0 u g q x y P K x' y' P' K') (hk : Kp [g] u v) (hs : Se v g a b c d) : Bs w0 v g q a b c d x' y' P' K' := ⟨h.sw.then hk hs, h.de.kp hk (by simpa using h.ne.symm), h.nq, h.ne⟩
theorem Bs.doc {w0 u v : World} {g q : Nat} {x y P K x' y' P' K' a b c d : Int} (h : Bs w0 u g q x y P K x' y' P' K') (hk : Kp [q] u v) (hd : De v q a b c d) : Bs w0 v g q x y P K a b c d :=
  ⟨⟨h.sw.bel.trans (hk.below h.sw.bel.size (fun k hm => by
    simp only [List.mem_cons, List.not_mem_nil, or_false] at hm
    rw [hm]
    exact h.nq)), h.sw.se.kp hk (by simpa using h.ne), h.sw.new⟩, hd, h.nq, h.ne⟩
/-- What a round reads beside them: two rows' cells, the call's own block. -/
structure StS (b1 o1 b2 o2 gb : Nat) (v1 v2 : Value) (box : Obj) (u : World) : Prop where
  c1 : u.cell? ⟨b1, o1, none⟩ = some v1
  c2 : u.cell? ⟨b2, o2, none⟩ = some v2
  bx : u.heap[gb]? = some box
theorem StS.kp {b1 o1 b2 o2 gb : Nat} {v1 v2 : Value} {box : Obj} {X : List Nat} {u u' : World} (h : StS b1 o1 b2 o2 gb v1 v2 box u) (hk : Kp X u u') (h1 : b1 ∉ X) (h2 : b2 ∉ X) (h3 : gb ∉ X) : StS b1 o1 b2 o2 gb v1 v2 box u' := ⟨hk.cell h.c1 h1, hk.cell h.c2 h2, hk.var h.bx h3⟩
theorem StS.on {b1 o1 b2 o2 gb : Nat} {v1 v2 : Value} {box : Obj} {u u' : World} (h : StS b1 o1 b2 o2 gb v1 v2 box u) (hb : Below u.heap.size u u') : StS b1 o1 b2 o2 gb v1 v2 box u' := h.kp (kp_of_below hb []) (by simp) (by simp) (by simp)
end Go.Proofs.Ytegmolmjoiklpaa
