/- Kind of an answer; what is read behind Set, Write and Set. -/
import Derived.Test.YtbolncddklgecaaDoorMemF
import Derived.Test.YtbolncddklgecaaDoorKindA
namespace Go.Proofs.YtbolncddklgecaaDoor
open Go Go.RowKit

theorem keeps (b : List UInt8) (k n : Nat) (M : Nat) (hM : k + b.length ≤ M) (i : Nat) (hi : i < n) :
    (rsz (wro (rsz [] M) k b) n).getD i 0 = if k ≤ i ∧ i < k + b.length then b.getD (i - k) 0 else 0 := by
  have e0 : rsz [] M = List.replicate M (0 : UInt8) := by rw [rsz, List.take_nil, List.nil_append, List.length_nil, Nat.sub_zero]
  have hl : (wro (rsz [] M) k b).length = M := by rw [wro_length (by rw [rsz_length]; omega), rsz_length]
  have h1 : ∀ i, i < M → (wro (rsz [] M) k b).getD i 0 = if k ≤ i ∧ i < k + b.length then b.getD (i - k) 0 else 0 := fun i hi => by
    rw [e0, wro, List.take_replicate, List.drop_replicate, List.getD, List.getD]
    by_cases h1 : i < k
    · rw [List.append_assoc, List.getElem?_append_left (by rw [List.length_replicate]; omega), if_neg (by omega), List.getElem?_replicate, if_pos (by omega)]
      rfl
    · by_cases h2 : i < k + b.length
      · rw [List.append_assoc, List.getElem?_append_right (by rw [List.length_replicate]; omega), List.length_replicate, List.getElem?_append_left (by omega), if_pos (by omega), show i - min k M = i - k by omega]
      · rw [List.getElem?_append_right (by rw [List.length_append, List.length_replicate]; omega), if_neg (by omega), List.getElem?_replicate]
        split <;> rfl
  rw [rsz, List.getD]
  by_cases h : i < M
  · rw [List.getElem?_append_left (by rw [List.length_take, hl]; omega), List.getElem?_take_of_lt hi]
    have := h1 i h
    rw [List.getD] at this
    exact this
  · rw [List.getElem?_append_right (by rw [List.length_take, hl]; omega), if_neg (by omega), List.getElem?_replicate]
    split <;> rfl

theorem at_block {w : World} {g : Nat} {l : List UInt8} {e : TypeId} (h : w.heap[g]? = some (.cells (bc l).toArray e (0, 0))) (j : Nat) (hj : j < l.length) : w.cell? ⟨g, j, none⟩ = some (.int .u8 ((l.getD j 0).toNat : Nat)) := by
  rw [Lib.cell_of_heap h]
  simp [bc, List.getElem?_eq_getElem hj]
theorem Rd.at_ {w : World} {a : Option Addr} {n c : Nat} {l : List UInt8} (h : Rd w a n c l) (j : Nat) (hj : j < n) : ∃ b off, a = some ⟨b, off, none⟩ ∧ b < w.heap.size ∧ w.cell? ⟨b, off + j, none⟩ = some (.int .u8 ((l.getD j 0).toNat : Nat)) := by
  have hl := h.len
  obtain ⟨b, off, e, hb, hc⟩ := h.plain (by omega)
  refine ⟨b, off, e, hb, ?_⟩
  rw [hc j (by omega), List.getD, List.getElem?_eq_getElem (by omega)]
  rfl
end Go.Proofs.YtbolncddklgecaaDoor
