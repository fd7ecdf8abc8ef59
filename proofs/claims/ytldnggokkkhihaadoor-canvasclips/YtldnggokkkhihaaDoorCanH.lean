/- Rows of colours that a call makes, as slices; what is drawn, point by point. -/
import Derived.Test.YtldnggokkkhihaaDoorCanF
import Derived.Test.YtldnggokkkhihaaDoorCanG
namespace Go.Proofs.YtldnggokkkhihaaDoor
open Go Go.RowKit

variable {w x y : World} {p b W H : Nat} {L : List Int}

theorem wf_col {z : Int} (h : Col z) : (Lit.int .u32 z).wf = true := by
  unfold Col at h
  simp [Lit.wf, IntKind.min, IntKind.max, IntKind.signed, IntKind.bits]
  omega
theorem rdw_of_owns {base e n : Nat} {v : Value} {zs : List Int} (h : w.ownsRow base e 1 v n (zs.map e32)) (hz : ∀ z ∈ zs, Col z) : ∃ a c, v = .slice a n c ∧ RdI .u32 w a n c zs ∧ ∀ x, a = some x → base ≤ x.block ∧ x.block < w.heap.size := by
  have hl : zs.length = n := by have := h.1; rw [List.length_map] at this; omega
  rcases h.2 with ⟨rfl, rfl⟩ | ⟨g, cap, cur, rfl, hb, hg, hn, hm, _, _⟩
  · obtain rfl : zs = [] := List.eq_nil_of_length_eq_zero hl
    exact ⟨none, 0, rfl, RdI.nil _ _, fun x hx => by cases hx⟩
  · refine ⟨some ⟨g, 0, none⟩, cap, rfl, ⟨hl, hn, hm, (fun h => by cases h), fun x hx j hj => ?_, fun z h => wf_col (hz z h)⟩, fun x hx => ?_⟩
    · cases hx
      rw [h.cells rfl j (.int .u32 (zs.getD j 0)) (by rw [List.getElem?_map, List.getElem?_eq_getElem (by omega), List.getD, List.getElem?_eq_getElem (by omega)]; rfl)]
    · cases hx
      exact ⟨hb, (Array.getElem?_eq_some_iff.1 hg).1⟩
theorem fits4 {need : Nat} (h : need ≤ 2000000000) : ∀ old, old < need → Builtin.nextslicecap need old * 4 ≤ 281474976710656 := fun old ho => by
  have := nextslicecap_near ho
  omega
theorem RdI.src32 {P : Program} {a : Option Addr} {n c : Nat} {zs : List Int} (h : RdI .u32 w a n c zs) {t e : TypeId} (ht : P.underlying t = some (.slice e)) : Src P 1 t (.slice a n c) n (zs.map e32) w := by
  have hl := h.len
  cases a with
  | none =>
    have h1 := h.hnil rfl
    have h2 := h.le
    obtain rfl : n = 0 := by omega
    obtain rfl : zs = [] := List.eq_nil_of_length_eq_zero hl
    exact Src.ofNil w ht c
  | some x =>
    refine Src.ofSlice w ht x n c (zs.map e32) (by rw [List.length_map, hl, Nat.mul_one]) (fun j u hu => ?_) (fun u hu => ?_)
    · rw [List.getElem?_map] at hu
      obtain ⟨z, hz, rfl⟩ := Option.map_eq_some_iff.1 hu
      have hj := (List.getElem?_eq_some_iff.1 hz).1
      rw [h.cells x rfl j (by omega), List.getD, hz]
      rfl
    · obtain ⟨_, _, rfl⟩ := List.mem_map.1 hu
      rfl

theorem drw_get {x y s t : Int} {pix : List Int} {l : List Rc} {i j : Nat} (hok : okD x y s t = true) (hi : i < W) : (drw W x y s t pix l L)[j * W + i]? = L[j * W + i]?.map fun z => if has ⟨x, y, s, t⟩ i j && inC l i j then gD x y s pix i j z else z := by
  rw [drw, if_pos hok, trn_get hi]
theorem drw_length {x y s t : Int} {pix : List Int} {l : List Rc} : (drw W x y s t pix l L).length = L.length := by
  unfold drw
  split
  · exact trn_length
  · rfl
end Go.Proofs.YtldnggokkkhihaaDoor
