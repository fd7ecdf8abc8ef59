/- The program's orders: insert, Top, beside, Above, Below. -/
import Derived.Test.YtfedcpnnmkkpaaaDoorOrdC
namespace Go.Proofs.YtfedcpnnmkkpaaaDoor
open Go Go.RowKit

theorem ins_cells (l : List Int) (i : Nat) (z : Int) (hi : i ≤ l.length) (Z : List Value) (hZ : Z.length = l.length + 1) : splice (splice (splice Z 0 (ic (l.take i))) i [.int .i64 z]) (i + 1) (ic (l.drop i)) = ic (ins l i z) := by
  rw [splice_splice_splice Z _ _ _ i 1 (by rw [ic_length, List.length_take]; omega) rfl (by rw [ic_length, List.length_drop]; omega), ins, ic_append]
  rfl
theorem splice_one {cur : List Value} {j : Nat} (hj : j < cur.length) (u : Value) : cur.toArray.setIfInBounds j u = (splice cur j [u]).toArray := by
  apply Array.ext'
  simp only [Array.toList_setIfInBounds, splice, List.length_cons, List.length_nil]
  rw [List.set_eq_take_append_cons_drop, if_pos hj]
  rfl
theorem owz_of {w u : World} {l : List Int} (hb : Below w.heap.size w u) (hg : u.heap[w.heap.size]? = some (.cells (ic l).toArray 3 (0, 0))) (hm : l.length ≤ maxLen) : OwZ w u (.slice (some ⟨w.heap.size, 0, none⟩) l.length l.length) l :=
  ⟨⟨by rw [ic_length, Nat.mul_one], .inr ⟨w.heap.size, l.length, _, rfl, Nat.le_refl _, hg, Nat.le_refl _, hm, by rw [List.size_toArray, ic_length, Nat.mul_one], by rw [Nat.mul_one, List.take_of_length_le (by rw [ic_length]; exact Nat.le_refl _)]⟩⟩, hb⟩

/-- 'copy' into a row that is known whole. -/
theorem copyZ (u : World) (g off : Nat) (cur : List Value) (hg : u.heap[g]? = some (.cells cur.toArray 3 (0, 0))) (dp : Option Addr) (dLen dCap : Nat) (sp : Option Addr) (m c : Nat) (l : List Int) (hr : Rz u sp m c l) (hm : m ≤ dLen) (hpos : 0 < m → dp = some ⟨g, off, none⟩) (hfit : off + m ≤ cur.length) {B : Nat} {w0 : World} (hb : Below B w0 u) (hBg : B ≤ g) :
    ∃ U, (∀ ty : TypeId, (Builtin.copy_ #[22, 22] ty #[.slice dp dLen dCap, .slice sp m c]).run Tryd.prog u = .ok (goInt m) U) ∧ U.heap[g]? = some (.cells (splice cur off (ic l)).toArray 3 (0, 0)) ∧ Below B w0 U := by
  have hl := hr.len
  have hil : (ic l).length = m := by rw [ic_length, hl]
  rcases Nat.eq_zero_or_pos m with h0 | h0
  · subst h0
    obtain rfl : l = [] := List.eq_nil_of_length_eq_zero hl
    exact ⟨u, fun ty => run_copy_none (P := Tryd.prog) u _ _ ty 3 _ _ _ _ _ _ Tryd.underlying22 sizeZ (Nat.zero_min _), by simpa [splice, ic] using hg, hb⟩
  · obtain rfl := hpos h0
    obtain ⟨ad, rfl, hc⟩ := hr.copies (by omega)
    refine ⟨u.setRow g (splice cur off (ic l)).toArray, fun ty => ?_, setRow_heap u g _ _ 3 _ hg, below_setRow hb hBg _⟩
    have := run_copy_row (P := Tryd.prog) u 22 22 ty 3 g off dLen dCap ad m c cur.toArray 3 (ic l) Tryd.underlying22 sizeZ hg (by rw [hil]; exact (Nat.min_eq_left hm).symm) hc (by rw [List.size_toArray, hil]; exact hfit) (ic_one l)
    rw [this, hil, splice, List.append_assoc, hil]

set_option maxRecDepth 100000 in
set_option maxHeartbeats 1000000 in
theorem oinsert_any (a : Option Addr) (n c : Nat) (l : List Int) (i : Nat) (z : Int) (w : World) (h : Rz w a n c l) (hi : i ≤ n) (hn : n ≤ 1000000) :
    Calls Tryd.prog 22 #[.slice a n c, .int .i64 i, .int .i64 z] w fun e w' => ∃ v, e = .returned v ∧ OwZ w w' v (ins l i z) := by
  obtain ⟨w1, hmk, hb1, hg1⟩ := makeZ w (n + 1) (by omega)
  rw [show ((n + 1 : Nat) : Int) = (n : Int) + 1 by omega] at hmk
  have hm := h.small
  have hle := h.le
  have hlen := h.len
  have hs1 := hb1.size
  obtain ⟨cur, hcur⟩ : ∃ cur, cur = ic (List.replicate (n + 1) 0) := ⟨_, rfl⟩
  have hcl : cur.length = n + 1 := by rw [hcur, ic_length, List.length_replicate]
  rw [← hcur] at hg1
  obtain ⟨w2, hcp2, hg2, hb2⟩ := copyZ w1 w.heap.size 0 cur hg1 (some ⟨w.heap.size, 0, none⟩) (n + 1) (n + 1) a i c (l.take i) ((h.on hb1).take i hi) (by omega) (fun _ => rfl) (by omega) hb1 (Nat.le_refl _)
  have hc2 : (splice cur 0 (ic (l.take i))).length = n + 1 := by rw [length_splice _ _ _ (by rw [ic_length, List.length_take]; omega), hcl]
  have hf2 : ∀ j, w2.frozen? ⟨w.heap.size, j, none⟩ = false := fun j => frozen_of_row w2 _ j _ _ hg2
  have hs2 : w.heap.size < w2.heap.size := (Array.getElem?_eq_some_iff.1 hg2).1
  have hb3 := hb2.setCell (p := ⟨w.heap.size, i, none⟩) (Nat.le_refl _) (.int .i64 z)
  have hg3 := heap_setCell_same w2 w.heap.size i _ 3 (.int .i64 z) hg2
  rw [splice_one (by omega)] at hg3
  obtain ⟨v0, hv0⟩ : ∃ v, w2.cell? ⟨w.heap.size, i, none⟩ = some v := by
    rw [cell_of_row w2 _ i _ _ _ hg2]
    exact ⟨_, Array.getElem?_eq_getElem (by rw [List.size_toArray, hc2]; omega)⟩
  obtain ⟨k, hk⟩ : ∃ k, k = i + 1 := ⟨_, rfl⟩
  obtain ⟨cur3, hc3⟩ : ∃ cur3, cur3 = splice (splice cur 0 (ic (l.take i))) i [.int .i64 z] := ⟨_, rfl⟩
  obtain ⟨X2, hX2⟩ : ∃ X2, X2 = ic (l.drop i) := ⟨_, rfl⟩
  rw [← hc3] at hg3
  have HL3 : Hid (cur3.length = n + 1) := by rw [Hid, hc3, length_splice _ _ _ (by rw [List.length_singleton]; omega), hc2]
  have HL2 : Hid (X2.length = n - i) := by rw [Hid, hX2, ic_length, List.length_drop, hlen]
  have HO2 : Hid (∀ v ∈ X2, v.oneCell' = true) := by rw [Hid, hX2]; exact ic_one _
  have HG3 : Hid ((w2.setCell ⟨w.heap.size, i, none⟩ (.int .i64 z)).drew.heap[w.heap.size]? = some (.cells cur3.toArray 3 (0, 0))) := hg3
  have HB3 := hid hb3.drew
  have HE : Hid (∀ u, Below w.heap.size w u → u.heap[w.heap.size]? = some (.cells (splice cur3 k X2).toArray 3 (0, 0)) → OwZ w u (.slice (some ⟨w.heap.size, 0, none⟩) (n + 1) (n + 1)) (ins l i z)) := fun u hu hg => by
    rw [hc3, hX2, hk, ins_cells l i z (by omega) cur (by omega)] at hg
    have := owz_of hu hg (by rw [ins_length]; simp only [maxLen]; omega)
    rwa [ins_length, hlen] at this
  have HS : Hid (∀ sp, sp = (if c = i then a else Option.map (fun x => x.add i) a) → i < n → ∃ ad, sp = some ad ∧ ∀ j v, X2[j]? = some v → (w2.setCell ⟨w.heap.size, i, none⟩ (.int .i64 z)).drew.cell? (ad.add j) = some v) := fun sp e hlt => by
    obtain ⟨b, off, e1, _⟩ := h.pl (by omega)
    subst e1
    rw [if_neg (by omega), Option.map_some, Go.WideShapes.add_plain] at e
    subst e
    obtain ⟨ad, h1, h2⟩ := ((h.on hb3.drew).drop i hi).copies (by rw [ic_length, List.length_drop]; omega)
    cases h1
    rw [hX2]
    exact ⟨_, rfl, h2⟩
  have e1 : IntKind.i64.wrap ((i : Int) + 1) = (k : Int) := by
    rw [IntKind.wrap_i64]
    omega
  have e2 : (k : Int) ≤ (n : Int) + 1 := by omega
  have e3 : (i : Int) ≤ n := by omega
  have hkn : k ≤ n + 1 := by omega
  have HK := hid hk
  clear hg1 hg2 hg3 hb1 hb2 hb3 hcur hcl hc2 h hc3 hX2 hk
  go_enter Tryd.func22, Tryd.ntmps22
  go_wp2
  refine wp_region_held_drew (S := fun _ => True) (by kernel_rfl) ?hh (fun hHeld => ?_)
  case hh => exact (trivial)
  try dsimp only at hHeld
  refine wpAnyH_take (i := 0) (v := ?_) rfl (by kernel_rfl) (by kernel_rfl) (by kernel_rfl) (fun _ _ _ h => h) (Or.inl ⟨by kernel_rfl, ?hy0⟩) (by assumption) ?_
  case hy0 => (intro wI hSw; (try dsimp only at hSw); go_simp; try with_reducible rfl)
  try simp only [Act.put, List.getElem_toArray, List.getElem_cons_zero, List.setIfInBounds_toArray, List.set_cons_zero, List.set_cons_succ]
  refine wpAnyH_take (i := 1) (v := ?_) rfl (by kernel_rfl) (by kernel_rfl) (by kernel_rfl) (fun _ _ _ h => h) (Or.inl ⟨by kernel_rfl, ?hy1⟩) (by assumption) ?_
  case hy1 => (intro wI hSw; (try dsimp only at hSw); go_simp; try with_reducible rfl)
  try simp only [Act.put, List.getElem_toArray, List.getElem_cons_zero, List.getElem_cons_succ, List.setIfInBounds_toArray, List.set_cons_zero, List.set_cons_succ]
  refine wpAnyH_take (i := 2) (v := ?_) rfl (by kernel_rfl) (by kernel_rfl) (by kernel_rfl) (fun _ _ _ h => h) (Or.inl ⟨by kernel_rfl, ?hy2⟩) (by assumption) ?_
  case hy2 => (intro wI hSw; (try dsimp only at hSw); go_simp; try with_reducible rfl)
  try simp only [Act.put, List.getElem_toArray, List.getElem_cons_zero, List.getElem_cons_succ, List.setIfInBounds_toArray, List.set_cons_zero, List.set_cons_succ]
  refine wpAnyH_take (i := 3) (v := ?_) rfl (by kernel_rfl) (by kernel_rfl) (by kernel_rfl) (fun _ _ _ h => h) (Or.inl ⟨by kernel_rfl, ?hy3⟩) (by assumption) ?_
  case hy3 => (intro wI hSw; (try dsimp only at hSw); go_simp; try with_reducible rfl)
  try simp only [Act.put, List.getElem_toArray, List.getElem_cons_zero, List.getElem_cons_succ, List.setIfInBounds_toArray, List.set_cons_zero, List.set_cons_succ]
  refine wpAnyH_take (i := 4) (v := ?_) rfl (by kernel_rfl) (by kernel_rfl) (by kernel_rfl) (fun _ _ _ h => h) (Or.inl ⟨by kernel_rfl, ?hy4⟩) (by assumption) ?_
  case hy4 => (intro wI hSw; (try dsimp only at hSw); go_simp; try with_reducible rfl)
  try simp only [Act.put, List.getElem_toArray, List.getElem_cons_zero, List.getElem_cons_succ, List.setIfInBounds_toArray, List.set_cons_zero, List.set_cons_succ]
  refine wpAnyH_take (i := 5) (v := ?_) rfl (by kernel_rfl) (by kernel_rfl) (by kernel_rfl) (fun _ _ _ h => h) (Or.inl ⟨by kernel_rfl, ?hy5⟩) (by assumption) ?_
  case hy5 => (intro wI hSw; (try dsimp only at hSw); go_simp; try with_reducible rfl)
  try simp only [Act.put, List.getElem_toArray, List.getElem_cons_zero, List.getElem_cons_succ, List.setIfInBounds_toArray, List.set_cons_zero, List.set_cons_succ]
  refine wpAnyH_take (i := 6) (v := ?_) rfl (by kernel_rfl) (by kernel_rfl) (by kernel_rfl) (fun _ _ _ h => h) (Or.inl ⟨by kernel_rfl, ?hy6⟩) (by assumption) ?_
  case hy6 => (intro wI hSw; (try dsimp only at hSw); go_simp; try with_reducible rfl)
  try simp only [Act.put, List.getElem_toArray, List.getElem_cons_zero, List.getElem_cons_succ, List.setIfInBounds_toArray, List.set_cons_zero, List.set_cons_succ]
  refine wpAnyH_ready (rs := [7]) (by kernel_rfl) (by simp) ?_
  refine AllReadyH.cons rfl (fun K hK => ?_) AllReadyH.nil
  refine step_copy_splice rfl (.tmp 24) (.tmp 27) 22 22 rfl 3 Tryd.underlying22 sizeZ (if n + 1 = k then some ⟨w.heap.size, 0, none⟩ else some ⟨w.heap.size, k, none⟩) (if c = i then a else Option.map (fun x => x.add i) a) (n + 1 - k) (n + 1 - k) (n - i) (c - i) rfl rfl w.heap.size k cur3 3 HG3.out X2 (by rw [HL2.out, HK.out]; simp) (fun h0 => ⟨if_neg (by rw [HL2.out] at h0; rw [HK.out]; omega), HS.out _ rfl (by rw [HL2.out] at h0; omega)⟩) (by rw [HL2.out, HL3.out, HK.out]; omega) HO2.out w.heap.size w HB3.out (Nat.le_refl _) ?_
  intro w4 HG4 hB4
  have HZ := hid (HE.out _ hB4 HG4.out)
  clear HG4 hB4
  refine hK.out _ _ trivial (fun _ => ?_)
  clear hK K
  try simp only [Act.put, List.getElem_toArray, List.getElem_cons_zero, List.getElem_cons_succ, List.setIfInBounds_toArray, List.set_cons_zero, List.set_cons_succ]
  refine wpAnyH_done (by kernel_rfl) ?_ _
  generalize (if n + 1 = k then some (⟨w.heap.size, 0, none⟩ : Addr) else some ⟨w.heap.size, k, none⟩) = dp
  generalize (if c = i then a else Option.map (fun x => x.add i) a) = sp
  go_wp2
  go_ret
  exact ⟨_, rfl, HZ.out⟩
end Go.Proofs.YtfedcpnnmkkpaaaDoor
