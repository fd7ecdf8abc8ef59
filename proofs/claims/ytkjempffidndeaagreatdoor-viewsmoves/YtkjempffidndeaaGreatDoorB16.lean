/- Lemmas that the proof leans on. -/
import Derived.Test.YtkjempffidndeaaGreatDoorB14
namespace Go.Proofs.YtkjempffidndeaaGreatDoor
open Go Go.RowKit
open List renaming getElem_toArray → lqA, getElem_cons_zero → lqB, getElem_cons_succ → lqC, setIfInBounds_toArray → lqD, set_cons_zero → lqE, set_cons_succ → lqF
set_option maxRecDepth 100000
set_option maxHeartbeats 1000000
section
def slN : Value → Nat
 | .slice _ n _ => n
 | _ => 0
structure Dri (w : World) (k : Int) (l0 : List Int) (lv rv : Value) (wr : World) : Prop where
 ex : ∃ a n c l r, lv = .slice a n c ∧ Rz w a n c l ∧ OwZ w wr rv r ∧ r ++ dr k l = dr k l0 ∧ r.length + n ≤ l0.length
theorem odrop_any (a : Option Addr) (n c : Nat) (l : List Int) (k : Int) (w : World) (p : Addr) (hp : Pl w p) (h : Rz w a n c l) (hn : n ≤ 1000000) :
  Calls Tryz.prog 117 #[.slice a n c, .int .i64 k] w fun e w' => ∃ v, e = .returned v ∧ OwZ w w' v (dr k l) := by
 obtain ⟨i0, hi, hz0, hz1, hz2⟩ := infoZp
 obtain ⟨w1, hmk, ho1⟩ := make0Z w n (by omega)
 have hl0 := h.len
 have HP := hid hp
 have HI : Hid (Dri w k l (.slice a n c) (.slice (some ⟨w.heap.size, 0, none⟩) 0 n) w1) := ⟨a, n, c, l, [], rfl, h, ho1, rfl, by simp [hl0]⟩
 have hl1 : l.length ≤ 1000000 := by omega
 clear h hp ho1 hl0
 go_enter Tryz.func117, Tryz.ntmps117
 go_wp2
 go_loopw [0, 5] (fun lv rv wr => Dri w k l lv rv wr) (fun lv _ _ => slN lv)
 case atStart => exact HI.out
 case round =>
  obtain ⟨a, m, c, l', r, rfl, hr, ho, hd, hlen⟩ := hrel.ex
  have hm := hr.small
  have hle := hr.le
  have HL := hid hr.len
  have HR := hid hr
  have HO := hid ho
  have HD := hid hd
  have HB := hid ho.bel
  have hp2 := HP.out.on ho.bel
  have HF := hid (ofirst_any a m c l' k wr p hp2 (hr.on ho.bel))
  have HC : Hid (∀ q, (wr.drewN q).cell? ⟨10, 0, none⟩ = some (.iface 183 (.pointer (some p)))) := fun q => (hp2.drewN q).c
  obtain ⟨av, cv, rfl, -, -⟩ := ho.rd
  clear hrel hr ho hd hp2 HI hmk
  cases hx : zx k l' with
  | some i =>
   rw [fstV_some hx] at HF
   obtain ⟨x1, x2, x3, x4⟩ := zx_some hx
   have hi1 : i < m := by rw [← HL.out]; exact x1
   obtain ⟨b, off, z, rfl, -, -, -⟩ := HR.out.at_ hi1
   have HS : Hid (∀ q, Src Tryz.prog 1 63 (.slice (some ⟨b, off, none⟩) i c) i (ic (l'.take i)) (wr.drewN q)) := fun q => (((HR.out.on HB.out).drewN q).take i (by omega)).src Tryz.underlying63
   have HN : Hid (∀ q u v, u.ownsRow w.heap.size 3 1 v (r.length + i) (ic r ++ ic (l'.take i)) → (wr.drewN q).grownBy u (Value.slice av r.length cv).ownBlock → ∃ av2 cv2, v = .slice av2 (r.length + i) cv2 ∧ Hid (Dri w k l (.slice (some ⟨b, off + (i + 1), none⟩) (m - (i + 1)) (c - (i + 1))) (.slice av2 (r.length + i) cv2) u) ∧ Hid (c = i + 1 → Dri w k l (.slice (some ⟨b, off, none⟩) 0 0) (.slice av2 (r.length + i) cv2) u)) := fun q u v o2 g2 => by
    have hti : (l'.take i).length = i := by rw [List.length_take, HL.out]; omega
    have ho2 := (HO.out.on (below_drewN (Below.refl _ _) q)).grown hti o2 g2
    obtain ⟨av2, cv2, rfl, -, -⟩ := ho2.rd
    have hlen2 : (r ++ l'.take i).length = r.length + i := by rw [List.length_append, hti]
    rw [hlen2] at ho2 ⊢
    have e : (r ++ l'.take i) ++ dr k (l'.drop (i + 1)) = dr k l := by rw [← HD.out, x3, List.append_assoc]
    refine ⟨av2, cv2, rfl, ⟨_, _, _, l'.drop (i + 1), r ++ l'.take i, rfl, HR.out.drop (i + 1) (by omega), ho2, e, by rw [hlen2]; omega⟩, fun hc => ?_⟩
    have h1 : l'.drop (i + 1) = [] := List.drop_eq_nil_of_le (by rw [HL.out]; omega)
    rw [h1] at e
    exact ⟨_, _, _, [], r ++ l'.take i, rfl, Rz.zero _ _, ho2, e, by rw [hlen2]; omega⟩
   have e1 : (i : Int) + 1 ≤ 9223372036854775807 := by omega
   have hws := HB.out.size
   have HSI : Hid (r.length + i ≤ 1000000) := by rw [Hid]; omega
   have HOW : Hid (∀ q, (wr.drewN q).ownsRow w.heap.size 3 1 (.slice av r.length cv) r.length (ic r)) := fun q => ownsRow_below HO.out.own (below_drewN (Below.refl _ _) q)
   clear hx x1 x2 x3 x4 HR HO HD HB HP HL
   by_cases hck : c = i + 1
   ·subst hck
    go_wp2_with fail
    refine HF.out.mono ?_
    rintro e w2 ⟨rfl, q, rfl⟩
    have c0 := HC.out q
    go_wp2_with fail
    refine (isz_nil p _).mono ?_
    rintro e w3 ⟨rfl, rfl⟩
    go_wp2_with (at_builtin; refine wpList_append_own_src _ rfl (.tmp 23) (.tmp 26) 63 63 rfl w.heap.size 3 i0 (.int .i64 0) 1 8 Tryz.underlying63 hi hz0 hz1 hz2 rfl _ _ _ rfl (HOW.out q) _ _ _ rfl (HS.out q) (by simp only [maxLen]; have := HSI.out; omega) (fitsZ (by have := HSI.out; omega)) hws ?_; intro v3 w3 o3 g3; obtain ⟨av2, cv2, rfl, HY, HX⟩ := HN.out _ _ _ o3 g3; clear o3 g3)
    exact ⟨HX.out trivial, by simp only [slN]; omega⟩
   ·go_wp2_with fail
    refine HF.out.mono ?_
    rintro e w2 ⟨rfl, q, rfl⟩
    have c0 := HC.out q
    go_wp2_with fail
    refine (isz_nil p _).mono ?_
    rintro e w3 ⟨rfl, rfl⟩
    go_wp2_with (at_builtin; refine wpList_append_own_src _ rfl (.tmp 23) (.tmp 26) 63 63 rfl w.heap.size 3 i0 (.int .i64 0) 1 8 Tryz.underlying63 hi hz0 hz1 hz2 rfl _ _ _ rfl (HOW.out q) _ _ _ rfl (HS.out q) (by simp only [maxLen]; have := HSI.out; omega) (fitsZ (by have := HSI.out; omega)) hws ?_; intro v3 w3 o3 g3; obtain ⟨av2, cv2, rfl, HY, HX⟩ := HN.out _ _ _ o3 g3; clear o3 g3)
    exact ⟨HY.out, by simp only [slN]; omega⟩
  | none =>
   rw [fstV_none hx] at HF
   have hdr := dr_not (zx_none.1 hx)
   have HS : Hid (∀ q, Src Tryz.prog 1 63 (.slice a m c) m (ic l') (wr.drewN q)) := fun q => ((HR.out.on HB.out).drewN q).src Tryz.underlying63
   have hws := HB.out.size
   have HN : Hid (∀ q u v, u.ownsRow w.heap.size 3 1 v (r.length + m) (ic r ++ ic l') → (wr.drewN q).grownBy u (Value.slice av r.length cv).ownBlock → OwZ w u v (dr k l)) := fun q u v o2 g2 => by
    have ho2 := (HO.out.on (below_drewN (Below.refl _ _) q)).grown HL.out o2 g2
    rw [← HD.out, hdr]
    exact ho2
   have HOW : Hid (∀ q, (wr.drewN q).ownsRow w.heap.size 3 1 (.slice av r.length cv) r.length (ic r)) := fun q => ownsRow_below HO.out.own (below_drewN (Below.refl _ _) q)
   clear hx hdr HR HO HD HB HP HL
   go_wp2_with fail
   refine HF.out.mono ?_
   rintro e w2 ⟨rfl, q, rfl⟩
   have c0 := HC.out q
   go_wp2_with fail
   refine (is_same p _).mono ?_
   rintro e w3 ⟨rfl, rfl⟩
   go_wp2_with (at_builtin; refine wpList_append_own_src _ rfl (.tmp 20) (.tmp 21) 63 63 rfl w.heap.size 3 i0 (.int .i64 0) 1 8 Tryz.underlying63 hi hz0 hz1 hz2 rfl _ _ _ rfl (HOW.out q) _ _ _ rfl (HS.out q) (by simp only [maxLen]; omega) (fitsZ (by omega)) hws ?_; intro v3 w3 o3 g3; have HZ := hid (HN.out _ _ _ o3 g3); clear o3 g3)
   go_ret
   exact ⟨_, rfl, HZ.out⟩
end
section
theorem ins_cells (l : List Int) (i : Nat) (z : Int) (hi : i ≤ l.length) (Z : List Value) (hZ : Z.length = l.length + 1) : splice (splice (splice Z 0 (ic (l.take i))) i [.int .i64 z]) (i + 1) (ic (l.drop i)) = ic (ins l i z) := by
 rw [splice_splice_splice Z _ _ _ i 1 (by rw [ic_length, List.length_take]; omega) rfl (by rw [ic_length, List.length_drop]; omega), ins, ic_append]
 rfl
theorem splice_one {cur : List Value} {j : Nat} (hj : j < cur.length) (u : Value) : cur.toArray.setIfInBounds j u = (splice cur j [u]).toArray := by
 apply Array.ext'
 simp only [Array.toList_setIfInBounds, splice, List.length_cons, List.length_nil]
 rw [List.set_eq_take_append_cons_drop, if_pos hj]
 rfl
theorem owz_of {w u : World} {l : List Int} (hb : Below w.heap.size w u) (hg : u.heap[w.heap.size]? = some (.cells (ic l).toArray 3 (0, 0))) (hm : l.length ≤ maxLen) : OwZ w u (.slice (some ⟨w.heap.size, 0, none⟩) l.length l.length) l :=
 ⟨⟨by rw [ic_length, Nat.mul_one], .inr ⟨w.heap.size, l.length, _, rfl, Nat.le_refl _, hg, Nat.le_refl _, hm, by rw [List.size_toArray, ic_length, Nat.mul_one], by rw [Nat.mul_one, List.take_of_length_le (by rw [ic_length]; exact Nat.le_refl _)]⟩⟩, hb⟩
theorem copyZ (u : World) (g off : Nat) (cur : List Value) (hg : u.heap[g]? = some (.cells cur.toArray 3 (0, 0))) (dp : Option Addr) (dLen dCap : Nat) (sp : Option Addr) (m c : Nat) (l : List Int) (hr : Rz u sp m c l) (hm : m ≤ dLen) (hpos : 0 < m → dp = some ⟨g, off, none⟩) (hfit : off + m ≤ cur.length) {B : Nat} {w0 : World} (hb : Below B w0 u) (hBg : B ≤ g) :
  ∃ U, (∀ ty : TypeId, (Builtin.copy_ #[63, 63] ty #[.slice dp dLen dCap, .slice sp m c]).run Tryz.prog u = .ok (goInt m) U) ∧ U.heap[g]? = some (.cells (splice cur off (ic l)).toArray 3 (0, 0)) ∧ Below B w0 U := by
 have hl := hr.len
 have hil : (ic l).length = m := by rw [ic_length, hl]
 rcases Nat.eq_zero_or_pos m with h0 | h0
 ·subst h0
  obtain rfl : l = [] := List.eq_nil_of_length_eq_zero hl
  exact ⟨u, fun ty => run_copy_none (P := Tryz.prog) u _ _ ty 3 _ _ _ _ _ _ Tryz.underlying63 sizeZ (Nat.zero_min _), by simpa [splice, ic] using hg, hb⟩
 ·obtain rfl := hpos h0
  obtain ⟨ad, rfl, hc⟩ := hr.copies (by omega)
  refine ⟨u.setRow g (splice cur off (ic l)).toArray, fun ty => ?_, setRow_heap u g _ _ 3 _ hg, below_setRow hb hBg _⟩
  have := run_copy_row (P := Tryz.prog) u 63 63 ty 3 g off dLen dCap ad m c cur.toArray 3 (ic l) Tryz.underlying63 sizeZ hg (by rw [hil]; exact (Nat.min_eq_left hm).symm) hc (by rw [List.size_toArray, hil]; exact hfit) (ic_one l)
  rw [this, hil, splice, List.append_assoc, hil]
theorem oinsert_any (a : Option Addr) (n c : Nat) (l : List Int) (i : Nat) (z : Int) (w : World) (h : Rz w a n c l) (hi : i ≤ n) (hn : n ≤ 1000000) :
  Calls Tryz.prog 118 #[.slice a n c, .int .i64 i, .int .i64 z] w fun e w' => ∃ v, e = .returned v ∧ OwZ w w' v (ins l i z) := by
 obtain ⟨w1, hmk, hb1, hg1⟩ := makeZ w (n + 1) (by omega)
 rw [show ((n + 1 : Nat) : Int) = (n : Int) + 1 by omega] at hmk
 have hm := h.small
 have hle := h.le
 have hlen := h.len
 have hs1 := hb1.size
 obtain ⟨cur, hcur⟩ : ∃ cur, cur = ic (List.replicate (n + 1) 0) := ⟨_, rfl⟩
 have hcl : cur.length = n + 1 := by rw [hcur, ic_length, List.length_replicate]
 rw [← hcur] at hg1
 obtain ⟨w2, hcp2, hg2, hb2⟩ := copyZ w1 w.heap.size 0 cur hg1 (some ⟨w.heap.size, 0, none⟩) (n + 1) (n + 1) a i c (l.take i) ((h.on hb1).take i hi) (by omega) (fun _ => rfl) (by omega) hb1 (Nat.le_refl _)
 have hc2 : (splice cur 0 (ic (l.take i))).length = n + 1 := by rw [length_splice _ _ _ (by rw [ic_length, List.length_take]; omega), hcl]
 have hf2 : ∀ j, w2.frozen? ⟨w.heap.size, j, none⟩ = false := fun j => frozen_of_row w2 _ j _ _ hg2
 have hs2 : w.heap.size < w2.heap.size := (Array.getElem?_eq_some_iff.1 hg2).1
 have hb3 := hb2.setCell (p := ⟨w.heap.size, i, none⟩) (Nat.le_refl _) (.int .i64 z)
 have hg3 := heap_setCell_same w2 w.heap.size i _ 3 (.int .i64 z) hg2
 rw [splice_one (by omega)] at hg3
 obtain ⟨v0, hv0⟩ : ∃ v, w2.cell? ⟨w.heap.size, i, none⟩ = some v := by
  rw [cell_of_row w2 _ i _ _ _ hg2]
  exact ⟨_, Array.getElem?_eq_getElem (by rw [List.size_toArray, hc2]; omega)⟩
 obtain ⟨k, hk⟩ : ∃ k, k = i + 1 := ⟨_, rfl⟩
 obtain ⟨cur3, hc3⟩ : ∃ cur3, cur3 = splice (splice cur 0 (ic (l.take i))) i [.int .i64 z] := ⟨_, rfl⟩
 obtain ⟨X2, hX2⟩ : ∃ X2, X2 = ic (l.drop i) := ⟨_, rfl⟩
 rw [← hc3] at hg3
 have HL3 : Hid (cur3.length = n + 1) := by rw [Hid, hc3, length_splice _ _ _ (by rw [List.length_singleton]; omega), hc2]
 have HL2 : Hid (X2.length = n - i) := by rw [Hid, hX2, ic_length, List.length_drop, hlen]
 have HO2 : Hid (∀ v ∈ X2, v.oneCell' = true) := by rw [Hid, hX2]; exact ic_one _
 have HG3 : Hid ((w2.setCell ⟨w.heap.size, i, none⟩ (.int .i64 z)).drew.heap[w.heap.size]? = some (.cells cur3.toArray 3 (0, 0))) := hg3
 have HB3 := hid hb3.drew
 have HE : Hid (∀ u, Below w.heap.size w u → u.heap[w.heap.size]? = some (.cells (splice cur3 k X2).toArray 3 (0, 0)) → OwZ w u (.slice (some ⟨w.heap.size, 0, none⟩) (n + 1) (n + 1)) (ins l i z)) := fun u hu hg => by
  rw [hc3, hX2, hk, ins_cells l i z (by omega) cur (by omega)] at hg
  have := owz_of hu hg (by rw [ins_length]; simp only [maxLen]; omega)
  rwa [ins_length, hlen] at this
 have HS : Hid (∀ sp, sp = (if c = i then a else Option.map (fun x => x.add i) a) → i < n → ∃ ad, sp = some ad ∧ ∀ j v, X2[j]? = some v → (w2.setCell ⟨w.heap.size, i, none⟩ (.int .i64 z)).drew.cell? (ad.add j) = some v) := fun sp e hlt => by
  obtain ⟨b, off, e1, _⟩ := h.pl (by omega)
  subst e1
  rw [if_neg (by omega), Option.map_some, Go.WideShapes.add_plain] at e
  subst e
  obtain ⟨ad, h1, h2⟩ := ((h.on hb3.drew).drop i hi).copies (by rw [ic_length, List.length_drop]; omega)
  cases h1
  rw [hX2]
  exact ⟨_, rfl, h2⟩
 have e1 : IntKind.i64.wrap ((i : Int) + 1) = (k : Int) := by
  rw [IntKind.wrap_i64]
  omega
 have e2 : (k : Int) ≤ (n : Int) + 1 := by omega
 have e3 : (i : Int) ≤ n := by omega
 have hkn : k ≤ n + 1 := by omega
 have HK := hid hk
 clear hg1 hg2 hg3 hb1 hb2 hb3 hcur hcl hc2 h hc3 hX2 hk
 go_enter Tryz.func118, Tryz.ntmps118
 go_wp2
 refine wp_region_held_drew (S := fun _ => True) (by kernel_rfl) ?hh (fun hHeld => ?_)
 case hh => exact (trivial)
 try dsimp only at hHeld
 refine wpAnyH_take (i := 0) (v := ?_) rfl (by kernel_rfl) (by kernel_rfl) (by kernel_rfl) (fun _ _ _ h => h) (Or.inl ⟨by kernel_rfl, ?hy0⟩) (by assumption) ?_
 case hy0 => (intro wI hSw; (try dsimp only at hSw); go_simp; try with_reducible rfl)
 try simp only [Act.put, lqA, lqB, lqD, lqE, lqF]
 refine wpAnyH_take (i := 1) (v := ?_) rfl (by kernel_rfl) (by kernel_rfl) (by kernel_rfl) (fun _ _ _ h => h) (Or.inl ⟨by kernel_rfl, ?hy1⟩) (by assumption) ?_
 case hy1 => (intro wI hSw; (try dsimp only at hSw); go_simp; try with_reducible rfl)
 try simp only [Act.put, lqA, lqB, lqC, lqD, lqE, lqF]
 refine wpAnyH_take (i := 2) (v := ?_) rfl (by kernel_rfl) (by kernel_rfl) (by kernel_rfl) (fun _ _ _ h => h) (Or.inl ⟨by kernel_rfl, ?hy2⟩) (by assumption) ?_
 case hy2 => (intro wI hSw; (try dsimp only at hSw); go_simp; try with_reducible rfl)
 try simp only [Act.put, lqA, lqB, lqC, lqD, lqE, lqF]
 refine wpAnyH_take (i := 3) (v := ?_) rfl (by kernel_rfl) (by kernel_rfl) (by kernel_rfl) (fun _ _ _ h => h) (Or.inl ⟨by kernel_rfl, ?hy3⟩) (by assumption) ?_
 case hy3 => (intro wI hSw; (try dsimp only at hSw); go_simp; try with_reducible rfl)
 try simp only [Act.put, lqA, lqB, lqC, lqD, lqE, lqF]
 refine wpAnyH_take (i := 4) (v := ?_) rfl (by kernel_rfl) (by kernel_rfl) (by kernel_rfl) (fun _ _ _ h => h) (Or.inl ⟨by kernel_rfl, ?hy4⟩) (by assumption) ?_
 case hy4 => (intro wI hSw; (try dsimp only at hSw); go_simp; try with_reducible rfl)
 try simp only [Act.put, lqA, lqB, lqC, lqD, lqE, lqF]
 refine wpAnyH_take (i := 5) (v := ?_) rfl (by kernel_rfl) (by kernel_rfl) (by kernel_rfl) (fun _ _ _ h => h) (Or.inl ⟨by kernel_rfl, ?hy5⟩) (by assumption) ?_
 case hy5 => (intro wI hSw; (try dsimp only at hSw); go_simp; try with_reducible rfl)
 try simp only [Act.put, lqA, lqB, lqC, lqD, lqE, lqF]
 refine wpAnyH_take (i := 6) (v := ?_) rfl (by kernel_rfl) (by kernel_rfl) (by kernel_rfl) (fun _ _ _ h => h) (Or.inl ⟨by kernel_rfl, ?hy6⟩) (by assumption) ?_
 case hy6 => (intro wI hSw; (try dsimp only at hSw); go_simp; try with_reducible rfl)
 try simp only [Act.put, lqA, lqB, lqC, lqD, lqE, lqF]
 refine wpAnyH_ready (rs := [7]) (by kernel_rfl) (by simp) ?_
 refine AllReadyH.cons rfl (fun K hK => ?_) AllReadyH.nil
 refine step_copy_splice rfl (.tmp 24) (.tmp 27) 63 63 rfl 3 Tryz.underlying63 sizeZ (if n + 1 = k then some ⟨w.heap.size, 0, none⟩ else some ⟨w.heap.size, k, none⟩) (if c = i then a else Option.map (fun x => x.add i) a) (n + 1 - k) (n + 1 - k) (n - i) (c - i) rfl rfl w.heap.size k cur3 3 HG3.out X2 (by rw [HL2.out, HK.out]; simp) (fun h0 => ⟨if_neg (by rw [HL2.out] at h0; rw [HK.out]; omega), HS.out _ rfl (by rw [HL2.out] at h0; omega)⟩) (by rw [HL2.out, HL3.out, HK.out]; omega) HO2.out w.heap.size w HB3.out (Nat.le_refl _) ?_
 intro w4 HG4 hB4
 have HZ := hid (HE.out _ hB4 HG4.out)
 clear HG4 hB4
 refine hK.out _ _ trivial (fun _ => ?_)
 clear hK K
 try simp only [Act.put, lqA, lqB, lqC, lqD, lqE, lqF]
 refine wpAnyH_done (by kernel_rfl) ?_ _
 generalize (if n + 1 = k then some (⟨w.heap.size, 0, none⟩ : Addr) else some ⟨w.heap.size, k, none⟩) = dp
 generalize (if c = i then a else Option.map (fun x => x.add i) a) = sp
 go_wp2
 go_ret
 exact ⟨_, rfl, HZ.out⟩
end
section
theorem otop_any (a : Option Addr) (n c : Nat) (l : List Int) (k : Int) (w : World) (p : Addr) (hp : Pl w p) (h : Rz w a n c l) (hn : n ≤ 1000000) :
  Calls Tryz.prog 80 #[.slice a n c, .int .i64 k] w fun e w' => ∃ v, e = .returned v ∧ OwZ w w' v (dr k l ++ [k]) := by
 have HD := hid (odrop_any a n c l k w p hp h hn)
 have hdl := dr_length k l
 rw [h.len] at hdl
 clear h hp
 go_enter Tryz.func80, Tryz.ntmps80
 go_wp2_with fail
 refine HD.out.mono ?_
 rintro e w1 ⟨v1, rfl, ho1⟩
 obtain ⟨a1, c1, rfl, hr1, -⟩ := ho1.rd
 have hs := hr1.small
 have HI := hid (oinsert_any a1 _ c1 _ (dr k l).length k w1 hr1 (Nat.le_refl _) (by omega))
 have HB := hid ho1.bel
 rw [ins_end] at HI
 clear ho1 hr1 HD
 generalize (dr k l).length = m at *
 go_wp2_with fail
 refine HI.out.mono ?_
 rintro e w2 ⟨v2, rfl, ho2⟩
 have HO := hid (ho2.base HB.out)
 clear ho2 HI HB
 go_wp2
 go_ret
 exact ⟨_, rfl, HO.out⟩
def BesR (w : World) (p : Addr) (r : Option (List Int)) (e : Ending) (w' : World) : Prop := match r with
 | none => e = .returned (.tuple #[.slice none 0 0, .iface 183 (.pointer (some p))]) ∧ Below w.heap.size w w'
 | some m => ∃ v, e = .returned (.tuple #[v, .nilIface]) ∧ OwZ w w' v m
theorem obeside_any (a : Option Addr) (n c : Nat) (l : List Int) (id by_ : Int) (b : Nat) (hb1 : b ≤ 1) (w : World) (p : Addr) (hp : Pl w p) (h : Rz w a n c l) (hn : n ≤ 1000000) :
  Calls Tryz.prog 121 #[.slice a n c, .int .i64 id, .int .i64 by_, .int .i64 b] w fun e w' => BesR w p (bes l id by_ b) e w' := by
 have HH := hid (ohas_any a n c l id w p hp h)
 have HD := hid (fun q => odrop_any a n c l id (w.drewN q) p (hp.drewN q) (h.drewN q) hn)
 have HP := hid hp
 have hdl := dr_length id l
 rw [h.len] at hdl
 clear h hp
 go_enter Tryz.func121, Tryz.ntmps121
 cases hx : zx id l with
 | none =>
  rw [hx] at HH
  have HE : Hid (bes l id by_ b = none) := by rw [Hid, bes, hx]
  clear hx
  go_wp2_with fail
  refine HH.out.mono ?_
  rintro e w1 ⟨rfl, q, rfl⟩
  have c0 := HP.out.c
  go_wp2
  go_quiet (fail)
  go_wp2
  go_ret2
  rw [HE.out]
  exact ⟨rfl, below_drewN (below_drewN (Below.refl _ _) _) _⟩
 | some j =>
  rw [hx] at HH
  have HE : Hid (bes l id by_ b = (zx by_ (dr id l)).map fun i => ins (dr id l) (i + b) id) := by rw [Hid, bes, hx]
  clear hx
  go_wp2_with fail
  refine HH.out.mono ?_
  rintro e w1 ⟨rfl, q, rfl⟩
  go_wp2_with fail
  refine (HD.out q).mono ?_
  rintro e w2 ⟨v2, rfl, ho2⟩
  have ho3 := ho2.base (below_drewN (Below.refl _ _) q)
  obtain ⟨a2, c2, rfl, hr2, -⟩ := ho2.rd
  have hs := hr2.small
  have HB := hid ho3.bel
  have HR := hid hr2
  have HF := hid (ofirst_any a2 _ c2 _ by_ w2 p (HP.out.on ho3.bel) hr2)
  clear ho2 ho3 hr2 HD HH
  have HL : Hid (∀ i, zx by_ (dr id l) = some i → i < (dr id l).length) := fun i hi => (zx_some hi).1
  generalize dr id l = L at *
  cases hy : zx by_ L with
  | none =>
   rw [fstV_none hy] at HF
   rw [hy] at HE
   clear hy HL
   go_wp2_with fail
   refine HF.out.mono ?_
   rintro e w3 ⟨rfl, q3, rfl⟩
   go_wp2
   go_ret2
   rw [HE.out]
   exact ⟨rfl, below_drewN HB.out _⟩
  | some i =>
   rw [fstV_some hy] at HF
   rw [hy] at HE
   have hi := HL.out i hy
   have HI := hid (fun q => oinsert_any a2 _ c2 L (i + b) id (w2.drewN q) (HR.out.drewN q) (by omega) (by omega))
   rw [show ((i + b : Nat) : Int) = (i : Int) + b by omega] at HI
   clear hy HL HR
   go_wp2_with fail
   refine HF.out.mono ?_
   rintro e w3 ⟨rfl, q3, rfl⟩
   go_wp2_with fail
   refine (HI.out q3).mono ?_
   rintro e w4 ⟨v4, rfl, ho4⟩
   have HO := hid (ho4.base (below_drewN HB.out q3))
   clear ho4 HI
   go_wp2
   go_ret2
   rw [HE.out]
   exact ⟨_, rfl, HO.out⟩
theorem oabove_any (a : Option Addr) (n c : Nat) (l : List Int) (id by_ : Int) (w : World) (p : Addr) (hp : Pl w p) (h : Rz w a n c l) (hn : n ≤ 1000000) :
  Calls Tryz.prog 96 #[.slice a n c, .int .i64 id, .int .i64 by_] w fun e w' => BesR w p (bes l id by_ 1) e w' := by
 have HB : Hid (Calls Tryz.prog 121 #[.slice a n c, .int .i64 id, .int .i64 by_, .int .i64 1] w fun e w' => BesR w p (bes l id by_ 1) e w') := obeside_any a n c l id by_ 1 (by omega) w p hp h hn
 clear h hp
 go_enter Tryz.func96, Tryz.ntmps96
 go_wp2_with fail
 refine HB.out.mono ?_
 rintro e w1 h1
 cases hr : bes l id by_ 1 with
 | none =>
  rw [hr] at h1
  obtain ⟨rfl, hb⟩ := h1
  have HZ := hid hb
  have HR := hid hr
  clear hb hr HB
  go_wp2
  go_ret2
  rw [HR.out]
  exact ⟨rfl, HZ.out⟩
 | some m =>
  rw [hr] at h1
  obtain ⟨v, rfl, ho⟩ := h1
  have HZ := hid ho
  have HR := hid hr
  clear ho hr HB
  go_wp2
  go_ret2
  rw [HR.out]
  exact ⟨_, rfl, HZ.out⟩
theorem obelow_any (a : Option Addr) (n c : Nat) (l : List Int) (id by_ : Int) (w : World) (p : Addr) (hp : Pl w p) (h : Rz w a n c l) (hn : n ≤ 1000000) :
  Calls Tryz.prog 99 #[.slice a n c, .int .i64 id, .int .i64 by_] w fun e w' => BesR w p (bes l id by_ 0) e w' := by
 have HB : Hid (Calls Tryz.prog 121 #[.slice a n c, .int .i64 id, .int .i64 by_, .int .i64 0] w fun e w' => BesR w p (bes l id by_ 0) e w') := obeside_any a n c l id by_ 0 (by omega) w p hp h hn
 clear h hp
 go_enter Tryz.func99, Tryz.ntmps99
 go_wp2_with fail
 refine HB.out.mono ?_
 rintro e w1 h1
 cases hr : bes l id by_ 0 with
 | none =>
  rw [hr] at h1
  obtain ⟨rfl, hb⟩ := h1
  have HZ := hid hb
  have HR := hid hr
  clear hb hr HB
  go_wp2
  go_ret2
  rw [HR.out]
  exact ⟨rfl, HZ.out⟩
 | some m =>
  rw [hr] at h1
  obtain ⟨v, rfl, ho⟩ := h1
  have HZ := hid ho
  have HR := hid hr
  clear ho hr HB
  go_wp2
  go_ret2
  rw [HR.out]
  exact ⟨_, rfl, HZ.out⟩
end
end Go.Proofs.YtkjempffidndeaaGreatDoor
