/- The program's windows above one another: New, Raise, Drop, All. -/
import Derived.Test.YtfedcpnnmkkpaaaDoorStkA
import Derived.Test.YtfedcpnnmkkpaaaDoorOrdE
import Derived.Lib.Builder
namespace Go.Proofs.YtfedcpnnmkkpaaaDoor
open Go Go.RowKit

/-- The stack at p stands for l. -/
structure Sk (w : World) (p : Nat) (l : List Int) : Prop where
  ex : ∃ a n c, w.heap[p]? = some (.cells #[.slice a n c] 37 (0, 0)) ∧ Rz w a n c l
variable {w w' : World} {p : Nat} {l m : List Int} {a : Option Addr} {n c : Nat}
theorem Sk.lt (h : Sk w p l) : p < w.heap.size := let ⟨_, _, _, h, _⟩ := h.ex; (Array.getElem?_eq_some_iff.1 h).1
theorem Sk.c0 (h : Sk w p l) : ∃ v, w.cell? ⟨p, 0, none⟩ = some v ∧ w.frozen? ⟨p, 0, none⟩ = false := by
  obtain ⟨a, n, c, h1, _⟩ := h.ex
  exact ⟨.slice a n c, by rw [Lib.cell_of_heap h1]; rfl, by simp [World.frozen?, h1]⟩
theorem Sk.on (h : Sk w p l) (hb : Below w.heap.size w w') : Sk w' p l := by
  have := h.lt
  obtain ⟨a, n, c, h1, h2⟩ := h.ex
  exact ⟨a, n, c, (hb.block p this).trans h1, h2.on hb⟩
/-- A slice of numbers never lies in the stack's own block. -/
theorem Rz.apart (hr : Rz w a n c m) (h : Sk w p l) (h0 : 0 < n) : ∃ b off, a = some ⟨b, off, none⟩ ∧ b ≠ p ∧ b < w.heap.size := by
  obtain ⟨b, off, z, rfl, hb, _, hc⟩ := hr.at_ h0
  refine ⟨b, off, rfl, fun e => ?_, hb⟩
  obtain ⟨a', n', c', h1, _⟩ := h.ex
  subst e
  rw [Lib.cell_of_heap h1] at hc
  cases off with
  | zero => simp at hc
  | succ off => simp at hc
theorem Rz.kp1 (hr : Rz w a n c m) (h : Sk w p l) (hk : Kp [p] w w') : Rz w' a n c m := by
  refine ⟨hr.len, hr.le, hr.max, hr.hnil, fun h0 => ?_⟩
  obtain ⟨b, off, rfl, hne, hb⟩ := hr.apart h h0
  refine ⟨b, off, rfl, Nat.lt_of_lt_of_le hb hk.size, fun j z hz => ?_⟩
  have hj : j < n := by
    have := (List.getElem?_eq_some_iff.1 hz).1
    rw [hr.len] at this
    exact this
  obtain ⟨b', off', z', e, _, hz', hc⟩ := hr.at_ hj
  cases e
  rw [hz] at hz'
  cases hz'
  exact hk.cell hc (by simp [hne])
/-- Another list is put into the stack's cell. -/
theorem Sk.put (h : Sk w p l) (hb : Below w.heap.size w w') (hr : Rz w' a n c m) : Sk (w'.setCell ⟨p, 0, none⟩ (.slice a n c)) p m ∧ Kp [p] w (w'.setCell ⟨p, 0, none⟩ (.slice a n c)) := by
  have hk : Kp [p] w' (w'.setCell ⟨p, 0, none⟩ (.slice a n c)) := (Kp.refl [p] w').set _ (by simp) _
  refine ⟨⟨a, n, c, ?_, hr.kp1 (h.on hb) hk⟩, (kp_of_below hb [p]).trans hk (fun k hk _ => hk)⟩
  obtain ⟨a', n', c', h1, _⟩ := (h.on hb).ex
  exact heap_setCell_same _ p 0 _ _ _ h1

set_option maxRecDepth 100000 in
theorem knew_any (w : World) : Calls Tryd.prog 6 #[] w fun e w' => e = .returned (.pointer (some ⟨w.heap.size, 0, none⟩)) ∧ Below w.heap.size w w' ∧ Sk w' w.heap.size [] := by
  go_enter Tryd.func6, Tryd.ntmps6
  go_wp2
  go_ret
  exact ⟨rfl, (Below.refl _ _).alloc (Nat.le_refl _) _, ⟨none, 0, 0, heap_alloc_new w _, Rz.nil _⟩⟩

/-- What a call that turns the stack leaves. -/
def SkR (w : World) (p : Nat) (l : List Int) (w' : World) : Prop := Sk w' p l ∧ Kp [p] w w'

set_option maxRecDepth 100000 in
theorem kraise_any (h : Sk w p l) (hl : l.length ≤ 1000000) (k : Int) (q : Addr) (hp : Pl w q) :
    Calls Tryd.prog 7 #[.pointer (some ⟨p, 0, none⟩), .int .i64 k] w fun e w' => (∃ v, e = .returned v) ∧ SkR w p (rse l k) w' := by
  have lp := h.lt
  obtain ⟨a, n, c, h1, h2⟩ := h.ex
  have c0 : w.cell? ⟨p, 0, none⟩ = some (.slice a n c) := by rw [Lib.cell_of_heap h1]; rfl
  have HT := hid (otop_any a n c l k w q hp h2 (by rw [← h2.len]; exact hl))
  have HS := hid h
  clear h h1 h2 hp
  go_enter Tryd.func7, Tryd.ntmps7
  go_wp2_with fail
  refine HT.out.mono ?_
  rintro e w1 ⟨v, rfl, ho⟩
  obtain ⟨a1, c1, rfl, hr, -⟩ := ho.rd
  have HP := hid (HS.out.put ho.bel hr)
  obtain ⟨v0, c1', f1⟩ := (HS.out.on ho.bel).c0
  have lp1 := (HS.out.on ho.bel).lt
  clear ho hr HT
  generalize (dr k l ++ [k]).length = N at *
  go_wp2
  go_end0
  exact ⟨⟨_, rfl⟩, HP.out⟩

set_option maxRecDepth 100000 in
theorem kdrop_any (h : Sk w p l) (hl : l.length ≤ 1000000) (k : Int) (q : Addr) (hp : Pl w q) :
    Calls Tryd.prog 9 #[.pointer (some ⟨p, 0, none⟩), .int .i64 k] w fun e w' => (∃ v, e = .returned v) ∧ SkR w p (dr k l) w' := by
  have lp := h.lt
  obtain ⟨a, n, c, h1, h2⟩ := h.ex
  have c0 : w.cell? ⟨p, 0, none⟩ = some (.slice a n c) := by rw [Lib.cell_of_heap h1]; rfl
  have HT := hid (odrop_any a n c l k w q hp h2 (by rw [← h2.len]; exact hl))
  have HS := hid h
  clear h h1 h2 hp
  go_enter Tryd.func9, Tryd.ntmps9
  go_wp2_with fail
  refine HT.out.mono ?_
  rintro e w1 ⟨v, rfl, ho⟩
  obtain ⟨a1, c1, rfl, hr, -⟩ := ho.rd
  have HP := hid (HS.out.put ho.bel hr)
  obtain ⟨v0, c1', f1⟩ := (HS.out.on ho.bel).c0
  have lp1 := (HS.out.on ho.bel).lt
  clear ho hr HT
  generalize (dr k l).length = N at *
  go_wp2
  go_end0
  exact ⟨⟨_, rfl⟩, HP.out⟩
end Go.Proofs.YtfedcpnnmkkpaaaDoor
