/- Bytes in new memory; rows that are written beside memories. -/
import Derived.Test.YtbolncddklgecaaDoorMemG
import Derived.Test.YtbolncddklgecaaDoorLibD
namespace Go.Proofs.YtbolncddklgecaaDoor
open Go Go.RowKit

theorem mbytes_any (w : World) (a : Option Addr) (n c : Nat) (l : List UInt8) (hr : Rd w a n c l) (hn : n ≤ 1000000) :
    Calls Tryd.prog 16 #[.slice a n c] w fun e w' => ∃ a' c', e = .returned (.slice a' n c') ∧ w'.ownsRow w.heap.size 5 1 (.slice a' n c') n (bc l) ∧ Below w.heap.size w w' := by
  obtain ⟨i0, hi, hz0, hz1, hz2⟩ := info_parts infoU8
  have HS := hid (hr.src (P := Tryd.prog) Tryd.underlying26)
  clear hr
  go_enter Tryd.func16, Tryd.ntmps16
  go_wp2_with (at_builtin; refine wpList_append_own_at _ rfl (.const (.slice none 0 0)) (.tmp 3) 26 26 rfl w.heap.size 5 i0 (.int .u8 0) 1 1 Tryd.underlying26 hi hz0 hz1 hz2 rfl _ 0 [] rfl (World.ownsRow_nil _ _ _ _) _ _ _ rfl HS.out (by simp only [maxLen]; omega) (fits1 (by omega)) (Nat.le_refl _) ?_; intro v1 w1 o1 g1 hv1)
  rw [Nat.zero_add, List.nil_append] at o1
  obtain ⟨a1, k1, rfl, h1, h2⟩ := rd_of_owns o1
  go_wp2
  go_ret
  exact ⟨a1, k1, rfl, o1, (Below.refl _ _).grown g1 (Nat.le_refl _) (fun k hk => by cases hk)⟩

/-- A row of bytes that may be written. -/
def Wr (x : World) (a : Option Addr) (n : Nat) : Prop := 0 < n → ∃ g C, a = some ⟨g, 0, none⟩ ∧ x.heap[g]? = some (.cells C 5 (0, 0)) ∧ ∀ j, j < n → ∃ z : Int, C[j]? = some (.int .u8 z)

theorem wr_of_owns {x : World} {base n c : Nat} {a : Option Addr} {l : List UInt8} (h : x.ownsRow base 5 1 (.slice a n c) n (bc l)) : Wr x a n := fun hn => by
  rcases h.2 with ⟨_, h0⟩ | ⟨g, cap, cur, hv, _, hg, hnc, _, hs, ht⟩
  · omega
  · cases hv
    refine ⟨g, cur, rfl, hg, fun j hj => ?_⟩
    have hl : (bc l).length = n := by have := h.1; omega
    have e : cur[j]? = (bc l)[j]? := by
      rw [← ht, Nat.mul_one, List.getElem?_take_of_lt hj, Array.getElem?_toList]
    rw [e, bc, List.getElem?_map]
    rw [bc_length] at hl
    rw [List.getElem?_eq_getElem (by omega)]
    exact ⟨_, rfl⟩
theorem wr_of_block {x : World} {g : Nat} {l : List UInt8} (h : x.heap[g]? = some (.cells (bc l).toArray 5 (0, 0))) : Wr x (some ⟨g, 0, none⟩) l.length := fun _ =>
  ⟨g, _, rfl, h, fun j hj => ⟨(l[j].toNat : Int), by simp [bc, List.getElem?_eq_getElem hj]⟩⟩

theorem Wr.set {x : World} {g j n : Nat} (h : Wr x (some ⟨g, 0, none⟩) n) (z : Int) (hj : j < n) : Wr (x.setCell ⟨g, j, none⟩ (.int .u8 z)) (some ⟨g, 0, none⟩) n := fun hn => by
  obtain ⟨g', C, e, hg, hC⟩ := h hn
  cases e
  refine ⟨g, _, rfl, heap_setCell_same _ _ _ _ _ _ hg, fun i hi => ?_⟩
  by_cases hij : i = j
  · subst hij
    obtain ⟨z0, hz⟩ := hC i hj
    have := (Array.getElem?_eq_some_iff.1 hz).1
    exact ⟨z, by simp [this]⟩
  · obtain ⟨z0, hz⟩ := hC i hi
    refine ⟨z0, ?_⟩
    rw [← hz]
    simp [Ne.symm hij]
theorem Wr.at_ {x : World} {g j n : Nat} (h : Wr x (some ⟨g, 0, none⟩) n) (hj : j < n) : ∃ z : Int, x.cell? ⟨g, j, none⟩ = some (.int .u8 z) ∧ ∀ i, x.frozen? ⟨g, i, none⟩ = false := by
  obtain ⟨g', C, e, hg, hC⟩ := h (by omega)
  cases e
  obtain ⟨z, hz⟩ := hC j hj
  exact ⟨z, by rw [Lib.cell_of_heap hg]; exact hz, Lib.frozen_of_heap hg⟩

/-- Apart from all that the memories have. -/
def Far (p b : Nat) (s : Int → Mo) (g : Nat) : Prop := g ≠ p ∧ g ≠ b ∧ ∀ k q, s k = some q → q.1 ≠ g

theorem Ms.set1 {w x : World} {p b : Nat} {s : Int → Mo} (h : Ms w x p b s) {g : Nat} (hg : w.heap.size ≤ g) (hf : Far p b s g) (j : Nat) (v : Value) : Ms w (x.setCell ⟨g, j, none⟩ v) p b s := by
  have hk : Kp [g] x (x.setCell ⟨g, j, none⟩ v) := (Kp.refl [g] x).set ⟨g, j, none⟩ (by simp) v
  exact h.kp (h.mm.kept hk (by simpa using Ne.symm hf.1) (by simpa using Ne.symm hf.2.1) (fun k q e => by simpa using hf.2.2 k q e)) hk (fun i hi => by simp only [List.mem_cons, List.not_mem_nil, or_false] at hi; omega)
end Go.Proofs.YtbolncddklgecaaDoor
