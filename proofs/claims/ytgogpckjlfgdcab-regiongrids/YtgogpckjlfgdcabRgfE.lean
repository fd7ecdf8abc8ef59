/- The document's make1. -/
import Derived.Test.YtgogpckjlfgdcabRgfD
import Derived.Test.YtgogpckjlfgdcabLibD
namespace Go.Proofs.Ytgogpckjlfgdcab
open Go Go.RowKit

/-- The first k higher by d. -/
def gk (d : Int) (k : Nat) (l : List Rc) : List Rc := (l.take k).map (fun r => ⟨r.x, r.y, r.w, r.h + d⟩) ++ l.drop k
theorem gk_len (d : Int) (k : Nat) (l : List Rc) : (gk d k l).length = l.length := by
  rw [gk, List.length_append, List.length_map, ← List.length_append, List.take_append_drop]
theorem gk_at {d : Int} {k : Nat} {l : List Rc} {r : Rc} (h : l[k]? = some r) : (gk d k l)[k]? = some r := by
  have hj : k < l.length := (List.getElem?_eq_some_iff.1 h).1
  have hl : ((l.take k).map (fun r => (⟨r.x, r.y, r.w, r.h + d⟩ : Rc))).length = k := by simp; omega
  rw [gk, List.getElem?_append_right (by omega), hl, Nat.sub_self, List.getElem?_drop, Nat.add_zero]
  exact h
theorem gk_set {d : Int} {k : Nat} {l : List Rc} {r : Rc} (h : l[k]? = some r) : (gk d k l).set k ⟨r.x, r.y, r.w, r.h + d⟩ = gk d (k + 1) l := by
  have hj : k < l.length := (List.getElem?_eq_some_iff.1 h).1
  have hl : ((l.take k).map (fun r => (⟨r.x, r.y, r.w, r.h + d⟩ : Rc))).length = k := by simp; omega
  rw [gk, List.set_append_right _ _ (by omega), hl, Nat.sub_self, drop_at h, List.set_cons_zero, gk, List.take_add_one, h]
  simp
theorem gk_all (d : Int) (l : List Rc) : gk d l.length l = grow d l := by
  rw [gk, List.take_length, List.drop_length, List.append_nil]
  rfl
theorem rccs_setH {l : List Rc} {j : Nat} {r : Rc} (h : l[j]? = some r) (z : Int) : (rccs l).set (j * 4 + 3) (.int .i64 z) = rccs (l.set j ⟨r.x, r.y, r.w, z⟩) := by
  induction l generalizing j with
  | nil => simp at h
  | cons x l ih =>
    cases j with
    | zero =>
      simp only [List.getElem?_cons_zero, Option.some.injEq] at h
      subst h
      simp [rccs_cons]
    | succ j =>
      rw [List.getElem?_cons_succ] at h
      rw [List.set_cons_succ, rccs_cons, rccs_cons, ← ih h, show (j + 1) * 4 + 3 = j * 4 + 3 + 4 by omega]
      simp only [List.set_cons_succ]
theorem OwC.setH {w u : World} {g n c : Nat} {l : List Rc} {j : Nat} {r : Rc} (h : OwC w u (.slice (some ⟨g, 0, none⟩) n c) l) (hn : l.length = n) (hr : l[j]? = some r) (z : Int) : OwC w (u.setCell ⟨g, j * 4 + 3, none⟩ (.int .i64 z)) (.slice (some ⟨g, 0, none⟩) n c) (l.set j ⟨r.x, r.y, r.w, z⟩) := by
  have h1 := h.own
  rw [hn] at h1
  have hg := (h1.lt g rfl).1
  have h2 := (h1.stored (j * 4 + 3) (.int .i64 z)).1
  rw [rccs_setH hr] at h2
  exact ⟨by rw [List.length_set, hn]; exact h2, h.bel.setCell (p := ⟨g, _, none⟩) hg _⟩
theorem OwC.set {w u : World} {v : Value} {l : List Rc} (h : OwC w u v l) {g k : Nat} (hn : v.ownBlock ≠ some g) (hg : w.heap.size ≤ g) (x : Value) : OwC w (u.setCell ⟨g, k, none⟩ x) v l := ⟨ownsRow_set h.own ⟨g, k, none⟩ hn x, h.bel.setCell (p := ⟨g, k, none⟩) hg _⟩

/-- make1's state: what is put by, and the last band, apart from one another. -/
structure M1 (w u : World) (s9 s10 : Value) (L last : List Rc) : Prop where
  fst : OwC w u s9 L
  snd : OwC w u s10 last
  ne : ∀ k, s9.ownBlock = some k → s10.ownBlock ≠ some k
theorem M1.on {w u u' : World} {s9 s10 : Value} {L last : List Rc} (h : M1 w u s9 s10 L last) (hb : Below u.heap.size u u') : M1 w u' s9 s10 L last := ⟨h.fst.on hb, h.snd.on hb, h.ne⟩

end Go.Proofs.Ytgogpckjlfgdcab
