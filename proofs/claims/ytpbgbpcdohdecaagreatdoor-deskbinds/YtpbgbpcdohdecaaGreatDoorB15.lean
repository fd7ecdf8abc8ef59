/- Lemmas that the proof leans on. -/
import Derived.Test.YtpbgbpcdohdecaaGreatDoorB14
import Derived.Lib.OwnBridge
import Derived.Sort.OwnSortedInts
namespace Go.Proofs.YtpbgbpcdohdecaaGreatDoor
open Go Go.RowKit
set_option maxRecDepth 100000
set_option maxHeartbeats 2000000
section
open Go Go.RowKit Go.Sort
theorem src2 (w : World) (y z : Int) : Src Tryz.prog 1 120 (.slice (some ⟨w.heap.size, 0, none⟩) 2 2) 2 (nums [y, z]) (w.alloc (.cells #[.int .i64 y, .int .i64 z] 3)) :=
 Src.ofSlice (P := Tryz.prog) _ Tryz.underlying120 ⟨w.heap.size, 0, none⟩ 2 2 (nums [y, z]) rfl (fun q u hu => by
  match q, hu with
  | 0, hu => cases hu; simp [Addr.add]
  | 1, hu => cases hu; simp [Addr.add]
  | q + 2, hu => simp [nums] at hu) (by simp [nums, Value.oneCell'])
theorem src1 (w : World) (y : Int) : Src Tryz.prog 1 120 (.slice (some ⟨w.heap.size, 0, none⟩) 1 1) 1 (nums [y]) (w.alloc (.cells #[.int .i64 y] 3)) :=
 Src.ofSlice (P := Tryz.prog) _ Tryz.underlying120 ⟨w.heap.size, 0, none⟩ 1 1 (nums [y]) rfl (fun q u hu => by
  match q, hu with
  | 0, hu => cases hu; simp [Addr.add]
  | q + 1, hu => simp [nums] at hu) (by simp [nums, Value.oneCell'])
structure OwJ (w u : World) (v : Value) (l : List Int) : Prop where
 own : u.ownsRow w.heap.size 3 1 v l.length (nums l)
 bel : Below w.heap.size w u
theorem OwJ.on {w u u' : World} {v : Value} {l : List Int} (h : OwJ w u v l) (hb : Below u.heap.size u u') : OwJ w u' v l := ⟨ownsRow_below h.own hb, Below.on h.bel hb⟩
theorem OwJ.base {w w0 u : World} {v : Value} {l : List Int} (h : OwJ w u v l) (hb : Below w0.heap.size w0 w) : OwJ w0 u v l := ⟨ownsRow_low h.own hb.size, Below.on hb h.bel⟩
theorem OwJ.grown {w u u' : World} {v v' : Value} {l m : List Int} {o : Obj} (h : OwJ w u v l) (o2 : u'.ownsRow w.heap.size 3 1 v' (l.length + m.length) (nums l ++ nums m)) (g : (u.alloc o).grownBy u' v.ownBlock) : OwJ w u' v' (l ++ m) :=
 ⟨by rw [List.length_append, nums_append]; exact o2, (h.bel.alloc h.bel.size _).grown g (by rw [World.size_alloc]; have := h.bel.size; omega) (fun k hk => (h.own.lt k hk).1)⟩
theorem OwJ.size {w u : World} {v : Value} {l : List Int} (h : OwJ w u v l) : w.heap.size ≤ u.heap.size := h.bel.size
theorem spans_snoc {l : List Rc} {j : Nat} {r : Rc} (h : l[j]? = some r) : spans (l.take (j + 1)) = spans (l.take j) ++ [r.x, r.x + r.w] := by
 rw [List.take_add_one, h]
 simp [spans]
def tops (l : List Rc) : List Int := l.flatMap fun r => [r.y, r.y + r.h]
theorem tops_append (a b : List Rc) : tops (a ++ b) = tops a ++ tops b := by simp [tops]
theorem tops_snoc {l : List Rc} {j : Nat} {r : Rc} (h : l[j]? = some r) : tops (l.take (j + 1)) = tops (l.take j) ++ [r.y, r.y + r.h] := by
 rw [List.take_add_one, h]
 simp [tops]
theorem tops_length (l : List Rc) : (tops l).length = 2 * l.length := by
 induction l with
 | nil => rfl
 | cons r l ih =>
  show (r.y :: (r.y + r.h) :: tops l).length = _
  rw [List.length_cons, List.length_cons, ih, List.length_cons]
  omega
theorem edgesat_any (a : Option Addr) (n c : Nat) (l : List Rc) (y : Int) (w : World) (h : RdC w a n c l) (hk : ∀ x ∈ l, Ck x) (hn : n ≤ 1000000) :
  Calls Tryz.prog 265 #[.slice a n c, .int .i64 y] w fun e w' => ∃ v, e = .returned v ∧ OwJ w w' v (edg_RgnF l y) := by
 have hl := h.len
 have hs := h.small
 cases l with
 | nil =>
  obtain rfl : n = 0 := hl.symm
  go_enter Tryz.func265, Tryz.ntmps265
  go_wp2
  go_ret
  exact ⟨_, rfl, World.ownsRow_nil _ _ _ _, Below.refl _ _⟩
 | cons r t =>
  have hn0 : 0 < n := by rw [← hl]; simp
  obtain ⟨b, off, rfl, hb, hel⟩ := h.pl hn0
  obtain ⟨_, _, y0, _, _⟩ := hel 0 r rfl
  simp only [Nat.zero_mul, Nat.add_zero] at y0
  have e1 : ((n : Int) == 0) = false := by simp; omega
  have e2 : (0 : Int) < n := by omega
  cases hq : decide (y < r.y)
  ·have HE : Hid (edg_RgnF (r :: t) y = spans (band r t)) := by rw [Hid, edg_RgnF, if_neg (by simpa using hq)]
   have H := hid h
   have HK := hid hk
   have hbl : bl r.y t + 1 ≤ n := by
    rw [← hl, List.length_cons]
    have := (List.takeWhile_sublist (p := fun a : Rc => decide (a.y = r.y)) (l := t)).length_le
    unfold bl
    omega
   have C1 := hid (fun u (hu : RdC u (some ⟨b, off, none⟩) n c (r :: t)) => first_any_RgnI (some ⟨b, off, none⟩) n c r t u hu)
   have HT := hid (h.take hbl)
   rw [band_take] at HT
   have KB : Hid (∀ x ∈ band r t, Ck x) := fun x hx => HK.out x (by rw [← band_behind]; simp [hx])
   obtain ⟨i0, hi, hz0, hz1, hz2⟩ := info3 infoI_RgnH
   clear hel h hk hl
   go_enter Tryz.func265, Tryz.ntmps265
   go_wp2_with fail
   refine (C1.out _ H.out).mono ?_
   rintro e w2 ⟨rfl, q, rfl⟩
   have HT := hid (HT.out.drewN q)
   have HB := hid (below_drewN_LibK (Below.refl w.heap.size w) q)
   obtain ⟨L, hL⟩ : ∃ L, L = band r t := ⟨_, rfl⟩
   obtain ⟨N, hN⟩ : ∃ N, N = bl r.y t + 1 := ⟨_, rfl⟩
   have HNL : Hid (L.length = N) := by rw [Hid, hL, hN]; exact band_len r t
   rw [← hL] at HT HE KB
   rw [← hN] at HT hbl ⊢
   generalize w.drewN q = w2 at HT HB ⊢
   clear hL hN C1 H HK
   have em : IntKind.i64.wrap (2 * (N : Int)) = 2 * (N : Int) := by rw [IntKind.wrap_i64]; omega
   go_wp2_with (at_make; refine wpList_make_own _ rfl _ _ 120 rfl w2.heap.size 3 i0 (.int .i64 0) 1 Tryz.underlying120 hi hz0 hz1 .i64 .i64 _ (2 * N) rfl rfl (by omega) (by rw [hz2]; omega) (by unfold maxLen; omega) (Nat.le_refl _) ?_; intro w3 own3 grow3)
   have HO : Hid (OwJ w2 w3 (.slice (some ⟨w2.heap.size, 0, none⟩) 0 (2 * N)) []) := ⟨own3, (Below.refl _ _).grown grow3 (Nat.le_refl _) (fun k h => by cases h)⟩
   clear own3 grow3
   go_wp2
   go_loopw [6, 28] (fun v i wr => ∃ j : Nat, i = .int .i64 j ∧ j ≤ N ∧ OwJ w2 wr v (spans (L.take j))) (fun _ i _ => N - (numOf i).toNat)
   case atStart => exact ⟨0, rfl, by omega, HO.out⟩
   case round =>
    obtain ⟨j, rfl, hj, hO⟩ := hrel
    have HO2 := hid hO
    clear hO HO
    by_cases hgo : j < N
    ·have e3 : decide ((j : Int) < N) = true := decide_eq_true (by omega)
     obtain ⟨b', off', s, hbo, _, hsj, _, he⟩ := (HT.out.on HO2.out.bel).el hgo
     simp only [Option.some.injEq, Addr.mk.injEq, and_true] at hbo
     obtain ⟨rfl, rfl⟩ := hbo
     obtain ⟨_, c0, c1, c2, c3⟩ := he
     obtain ⟨g1, g2, g3, g4, g5, g6⟩ := KB.out s (List.mem_of_getElem? hsj)
     have HS := hid (spans_snoc hsj)
     have hlen : (spans (L.take j)).length ≤ 2000000 := by rw [spans_length, List.length_take]; omega
     have HX := hid (HO2.out.on (below_new wr (ob s)))
     rw [ob] at HX
     clear hsj
     have HOW := hid (HX.out.own.alloc (.cells #[.int .i64 s.x, .int .i64 (s.x + s.w)] 3))
     have HSR := hid (src2 (wr.alloc (.cells #[.int .i64 s.x, .int .i64 s.y, .int .i64 s.w, .int .i64 s.h] 97)) s.x (s.x + s.w))
     rw [World.size_alloc] at HSR
     have HSZ := (HX.out.on (below_new _ (.cells #[.int .i64 s.x, .int .i64 (s.x + s.w)] 3))).size
     have HA : Hid (∀ v' w', w'.ownsRow w2.heap.size 3 1 v' ((spans (L.take j)).length + 2) (nums (spans (L.take j)) ++ nums [s.x, s.x + s.w]) → ((wr.alloc (.cells #[.int .i64 s.x, .int .i64 s.y, .int .i64 s.w, .int .i64 s.h] 97)).alloc (.cells #[.int .i64 s.x, .int .i64 (s.x + s.w)] 3)).grownBy w' u6.ownBlock → OwJ w2 w' v' (spans (L.take (j + 1)))) := fun v' w' o g => by
      rw [HS.out]
      exact HX.out.grown o g
     clear HO2 HX HS
     generalize spans (L.take j) = K0 at HOW HA hlen
     go_wp2_with (at_builtin; refine wpList_append_own_src _ rfl (.tmp 32) (.tmp 40) 120 120 rfl w2.heap.size 3 i0 (.int .i64 0) 1 8 Tryz.underlying120 hi hz0 hz1 hz2 rfl _ _ _ rfl HOW.out _ _ _ rfl HSR.out (by simp only [maxLen]; omega) (fitsI (by omega)) HSZ ?_; intro v3 w3 o3 g3; have H3 := hid (HA.out _ _ o3 g3); clear o3 g3 HA HOW HSR HSZ)
     go_wp2
     go_roundw
     case rel => exact ⟨j + 1, by go_num, by omega, H3.out⟩
     case measure => simp [numOf]; omega
    ·have e3 : decide ((j : Int) < N) = false := decide_eq_false (by omega)
     obtain rfl : j = N := by omega
     have HF : Hid (spans (L.take j) = edg_RgnF (r :: t) y) := by rw [Hid, HE.out, List.take_of_length_le (by rw [HNL.out]; exact Nat.le_refl _)]
     go_wp2
     go_ret
     rw [HF.out] at HO2
     exact ⟨_, rfl, HO2.out.base HB.out⟩
  ·have HE : Hid (edg_RgnF (r :: t) y = []) := by rw [Hid, edg_RgnF, if_pos (by simpa using hq)]
   clear hel h hk hl
   go_enter Tryz.func265, Tryz.ntmps265
   go_wp2
   go_ret
   rw [HE.out]
   exact ⟨_, rfl, World.ownsRow_nil _ _ _ _, Below.refl _ _⟩
theorem compact_upto_RgnM (d : Array Int) (hd : ∀ i j, i ≤ j → j < d.size → d[i]! ≤ d[j]!) : ∀ m, m ≤ d.size → (Lib.compactUpTo d m).Pairwise (· < ·) ∧ (∀ x ∈ Lib.compactUpTo d m, 0 < m ∧ x ≤ d[m - 1]!) ∧ ∀ x, x ∈ Lib.compactUpTo d m ↔ ∃ i < m, d[i]! = x
 | 0, _ => by simp [Lib.compactUpTo]
 | m + 1, hm => by
  obtain ⟨h1, h2, h3⟩ := compact_upto_RgnM d hd m (by omega)
  rw [Lib.compactUpTo_succ]
  by_cases hk : Lib.keeps d m = true
  ·rw [if_pos hk]
   have hlt : ∀ x ∈ Lib.compactUpTo d m, x < d[m]! := fun x hx => by
    obtain ⟨g1, g2⟩ := h2 x hx
    have g3 := hd (m - 1) m (by omega) (by omega)
    have g4 : m = 0 ∨ d[m]! ≠ d[m - 1]! := by simpa [Lib.keeps] using hk
    rcases g4 with g4 | g4
    ·omega
    ·have : d[m - 1]! ≠ d[m]! := fun e => g4 e.symm
     omega
   refine ⟨?_, fun x hx => ?_, fun x => ?_⟩
   ·rw [List.pairwise_append]
    exact ⟨h1, by simp, fun x hx y hy => by simp only [List.mem_singleton] at hy; rw [hy]; exact hlt x hx⟩
   ·refine ⟨by omega, ?_⟩
    rcases List.mem_append.1 hx with hx | hx
    ·have := hlt x hx; rw [Nat.add_sub_cancel]; omega
    ·simp only [List.mem_singleton] at hx; rw [hx, Nat.add_sub_cancel]; exact Int.le_refl _
   ·rw [List.mem_append, h3]
    constructor
    ·rintro (⟨i, hi, e⟩ | hx)
     ·exact ⟨i, by omega, e⟩
     ·simp only [List.mem_singleton] at hx; exact ⟨m, by omega, hx.symm⟩
    ·rintro ⟨i, hi, e⟩
     rcases Nat.lt_or_ge i m with h | h
     ·exact .inl ⟨i, h, e⟩
     ·obtain rfl : i = m := by omega
      exact .inr (by simp [e])
  ·rw [if_neg hk, List.append_nil]
   have g : m ≠ 0 ∧ d[m]! = d[m - 1]! := by simpa [Lib.keeps] using hk
   refine ⟨h1, fun x hx => ⟨by omega, ?_⟩, fun x => ?_⟩
   ·rw [Nat.add_sub_cancel, g.2]; exact (h2 x hx).2
   ·rw [h3]
    constructor
    ·rintro ⟨i, hi, e⟩; exact ⟨i, by omega, e⟩
    ·rintro ⟨i, hi, e⟩
     rcases Nat.lt_or_ge i m with h | h
     ·exact ⟨i, h, e⟩
     ·obtain rfl : i = m := by omega
      exact ⟨i - 1, by omega, by rw [← g.2]; exact e⟩
theorem compact_ys (l : List Rc) : Lib.compact ((tops l).mergeSort fun x y => decide (x ≤ y)) = ysOf l := by
 obtain ⟨zs, hz⟩ : ∃ zs, zs = (tops l).mergeSort fun x y => decide (x ≤ y) := ⟨_, rfl⟩
 have hp : zs.Pairwise (fun a b => decide (a ≤ b) = true) := by
  rw [hz]
  exact List.pairwise_mergeSort (fun a b c h1 h2 => by simp at h1 h2 ⊢; omega) (fun a b => by simp; omega) _
 have hm : ∀ x, x ∈ zs ↔ x ∈ tops l := fun x => by rw [hz]; exact (List.mergeSort_perm _ _).mem_iff
 rw [← hz]
 have hg : ∀ i, i < zs.toArray.size → zs.toArray[i]! = zs[i]! := fun i hi => by simp
 obtain ⟨h1, _, h3⟩ := compact_upto_RgnM zs.toArray (fun i j hij hj => by
  rw [hg i (by omega), hg j hj]
  simp only [List.size_toArray] at hj
  rw [getElem!_pos zs i (by omega), getElem!_pos zs j hj]
  rcases Nat.lt_or_ge i j with h | h
  ·have := List.pairwise_iff_getElem.1 hp i j (by omega) hj h
   simpa using this
  ·obtain rfl : i = j := by omega
   exact Int.le_refl _) zs.toArray.size (Nat.le_refl _)
 refine order_eq _ _ h1 (ys_rise l) (fun a _ b _ h h' => by omega) fun x => ?_
 have e : Lib.compact zs = Lib.compactUpTo zs.toArray zs.toArray.size := by rw [Lib.compact, List.size_toArray]
 rw [e, h3, ys_mem]
 have : (∃ i < zs.toArray.size, zs.toArray[i]! = x) ↔ x ∈ zs := by
  constructor
  ·rintro ⟨i, hi, e⟩
   rw [hg i hi] at e
   simp only [List.size_toArray] at hi
   rw [getElem!_pos zs i hi] at e
   rw [← e]
   exact List.getElem_mem hi
  ·intro h
   obtain ⟨i, hi, e⟩ := List.mem_iff_getElem.1 h
   exact ⟨i, by simpa using hi, by rw [hg i (by simpa using hi), getElem!_pos zs i hi]; exact e⟩
 rw [this, hm]
 simp [tops]
theorem below_grow_RgnM {B : Nat} {w0 w : World} (h : RowKit.Below B w0 w) (hB : B ≤ w.heap.size) (os : Array Obj) : RowKit.Below B w0 (Sort.grow w os) :=
 ⟨h.os, h.tape, h.output, by rw [size_grow]; have := h.size; omega, fun k hk => by
  rw [← h.block k hk]
  unfold Sort.grow
  simp only
  rw [Array.getElem?_append_left (by omega)]⟩
theorem compact_len_RgnM (zs : List Int) : (Lib.compact zs).length ≤ zs.length := by
 rw [Lib.compact, Lib.compactUpTo, List.length_map]
 exact Nat.le_trans (List.length_filter_le _ _) (by simp)
theorem sorted_once {w u : World} {v : Value} {l : List Rc} (h : OwJ w u v (tops l)) (hn : (tops l).length ≤ 4000000) :
  Calls Tryz.prog 99 #[v] u fun e u1 => e = .returned (.tuple #[]) ∧ Calls Tryz.prog 100 #[v] u1 fun e u2 => ∃ v', e = .returned v' ∧ OwJ w u2 v' (ysOf l) := by
 rw [← compact_ys]
 generalize tops l = zs at h hn
 rcases h.own.2 with ⟨rfl, h0⟩ | ⟨g, cap, cur, rfl, hb, hg, hnc, hm, hcs, ht⟩
 ·obtain rfl : zs = [] := List.eq_nil_of_length_eq_zero h0
  refine (AnyM.slices_Sort_int_none sortA_ShlB none 0 u).mono ?_
  rintro e u1 ⟨rfl, rfl⟩
  refine ⟨rfl, (AnyG.slices_Compact_int_empty compA_ShlB none 0 _).mono ?_⟩
  rintro e u2 ⟨rfl, rfl⟩
  exact ⟨_, rfl, by simpa [Lib.compact, Lib.compactUpTo, nums] using World.ownsRow_nil _ _ _ _, h.bel⟩
 ·have hgl := (h.own.lt g rfl)
  obtain ⟨_, _, e0, _, _, _, _, _, hH⟩ := Lib.holds_of_ownsRow (enc := Value.int .i64) h.own (by simp)
  cases e0
  refine (AnyM.slices_Sort_int sortA_ShlB g 0 cap zs u hH hgl.2 (by omega)).mono ?_
  rintro e u1 ⟨rfl, n, os, rfl⟩
  have hlen : (zs.mergeSort fun x y => decide (x ≤ y)).length = zs.length := List.length_mergeSort _
  have own1 := ownsRow_sortedI (w := u) (base := w.heap.size) (g := g) (cap := cap) (n := n) (os := os) (e := 3) (ss := zs) (ts := zs.mergeSort fun x y => decide (x ≤ y)) hlen hb hg hnc hm hcs
  have bel1 : RowKit.Below w.heap.size w (Sort.grow (putRow (Value.int .i64) (Sort.ahead u n) g 0 (zs.mergeSort fun x y => decide (x ≤ y)).toArray) os) := below_grow_RgnM (Lib.below_putRow h.bel hb) (by
   have := h.bel.size
   simpa [putRow, mapBlock, Sort.ahead] using this) os
  refine ⟨rfl, ?_⟩
  generalize Sort.grow (putRow (Value.int .i64) (Sort.ahead u n) g 0 (zs.mergeSort fun x y => decide (x ≤ y)).toArray) os = u1 at own1 bel1
  generalize (zs.mergeSort fun x y => decide (x ≤ y)) = ss at own1 hlen
  rw [← hlen] at own1 hnc ⊢
  obtain ⟨_, _, e0, _, _, _, _, _, hH1⟩ := Lib.holds_of_ownsRow (enc := Value.int .i64) own1 (by simp)
  cases e0
  refine (AnyG.slices_Compact_int compA_ShlB g 0 cap ss u1 hH1 (by omega) hnc).mono ?_
  rintro e u2 ⟨rfl, q, rfl⟩
  have hc := compact_len_RgnM ss
  have own2 := Lib.ownsRow_putRow (enc := Value.int .i64) (q := q) (k := (Lib.compact ss).length) own1 (ys := Lib.compact ss ++ List.replicate (ss.length - (Lib.compact ss).length) 0) (by simp; omega) hc
  rw [List.take_left] at own2
  exact ⟨_, rfl, own2, Lib.below_putRow bel1 hb⟩
theorem heights_any (a a' : Option Addr) (n c n' c' : Nat) (l m : List Rc) (w : World) (h : RdC w a n c l) (h' : RdC w a' n' c' m) (hk : ∀ x ∈ l, Ck x) (hk' : ∀ x ∈ m, Ck x) (hn : n ≤ 1000000) (hn' : n' ≤ 1000000) :
  Calls Tryz.prog 262 #[.slice a n c, .slice a' n' c'] w fun e w' => ∃ v, e = .returned v ∧ OwJ w w' v (ysOf (l ++ m)) := by
 have H := hid h
 have H' := hid h'
 have K := hid hk
 have K' := hid hk'
 have HL := hid h.len
 have HL' := hid h'.len
 obtain ⟨i0, hi, hz0, hz1, hz2⟩ := info3 infoI_RgnH
 clear h h' hk hk'
 have es : IntKind.i64.wrap ((n : Int) + (n' : Int)) = (n : Int) + n' := by rw [IntKind.wrap_i64]; omega
 have em : IntKind.i64.wrap (2 * ((n : Int) + (n' : Int))) = 2 * ((n : Int) + n') := by rw [IntKind.wrap_i64]; omega
 go_enter Tryz.func262, Tryz.ntmps262
 go_wp2_with (at_make; refine wpList_make_own _ rfl _ _ 120 rfl w.heap.size 3 i0 (.int .i64 0) 1 Tryz.underlying120 hi hz0 hz1 .i64 .i64 _ (2 * (n + n')) rfl rfl (by omega) (by rw [hz2]; omega) (by unfold maxLen; omega) (Nat.le_refl _) ?_; intro w3 own3 grow3)
 have HO : Hid (OwJ w w3 (.slice (some ⟨w.heap.size, 0, none⟩) 0 (2 * (n + n'))) (tops (l.take 0))) := ⟨own3, (Below.refl _ _).grown grow3 (Nat.le_refl _) (fun k h => by cases h)⟩
 clear own3 grow3
 go_wp2
 go_loopw [5, 19] (fun v i wr => ∃ j : Nat, i = .int .i64 j ∧ j ≤ n ∧ OwJ w wr v (tops (l.take j))) (fun _ i _ => n - (numOf i).toNat)
 case atStart => exact ⟨0, rfl, by omega, HO.out⟩
 case round =>
  obtain ⟨j, rfl, hj, hO⟩ := hrel
  have HO2 := hid hO
  clear hO HO
  by_cases hgo : j < n
  ·have e3 : decide ((j : Int) < n) = true := decide_eq_true (by omega)
   obtain ⟨b, off, s, rfl, _, hsj, _, he⟩ := (H.out.on HO2.out.bel).el hgo
   obtain ⟨_, c0, c1, c2, c3⟩ := he
   obtain ⟨g1, g2, g3, g4, g5, g6⟩ := K.out s (List.mem_of_getElem? hsj)
   have HS := hid (tops_snoc hsj)
   have hlen : (tops (l.take j)).length ≤ 4000000 := by simp only [tops_length, List.length_take]; omega
   have HX := hid (HO2.out.on (below_new wr (ob s)))
   rw [ob] at HX
   clear hsj
   have HOW := hid (HX.out.own.alloc (.cells #[.int .i64 s.y, .int .i64 (s.y + s.h)] 3))
   have HSR := hid (src2 (wr.alloc (.cells #[.int .i64 s.x, .int .i64 s.y, .int .i64 s.w, .int .i64 s.h] 97)) s.y (s.y + s.h))
   rw [World.size_alloc] at HSR
   have HSZ := (HX.out.on (below_new _ (.cells #[.int .i64 s.y, .int .i64 (s.y + s.h)] 3))).size
   have HA : Hid (∀ v' w', w'.ownsRow w.heap.size 3 1 v' ((tops (l.take j)).length + 2) (nums (tops (l.take j)) ++ nums [s.y, s.y + s.h]) → ((wr.alloc (.cells #[.int .i64 s.x, .int .i64 s.y, .int .i64 s.w, .int .i64 s.h] 97)).alloc (.cells #[.int .i64 s.y, .int .i64 (s.y + s.h)] 3)).grownBy w' u5.ownBlock → OwJ w w' v' (tops (l.take (j + 1)))) := fun v' w' o g => by
    rw [HS.out]
    exact HX.out.grown o g
   clear HO2 HX HS
   generalize tops (l.take j) = K0 at HOW HA hlen
   go_wp2_with (at_builtin; refine wpList_append_own_src _ rfl (.tmp 23) (.tmp 31) 120 120 rfl w.heap.size 3 i0 (.int .i64 0) 1 8 Tryz.underlying120 hi hz0 hz1 hz2 rfl _ _ _ rfl HOW.out _ _ _ rfl HSR.out (by simp only [maxLen]; omega) (fitsI (by omega)) HSZ ?_; intro v3 w3 o3 g3; have H3 := hid (HA.out _ _ o3 g3); clear o3 g3 HA HOW HSR HSZ)
   go_wp2
   go_roundw
   case rel => exact ⟨j + 1, by go_num, by omega, H3.out⟩
   case measure => simp [numOf]; omega
  ·have e3 : decide ((j : Int) < n) = false := decide_eq_false (by omega)
   obtain rfl : j = n := by omega
   have HF : Hid (tops (l.take j) = tops l) := by rw [Hid, List.take_of_length_le (by rw [HL.out]; exact Nat.le_refl _)]
   rw [HF.out] at HO2
   have HO : Hid (OwJ w wr u5 (tops l ++ tops (m.take 0))) := by rw [Hid, List.take_zero, show tops [] = [] from rfl, List.append_nil]; exact HO2.out
   clear HO2 HF
   go_wp2
   go_loopw [5, 36] (fun v i wr => ∃ j : Nat, i = .int .i64 j ∧ j ≤ n' ∧ OwJ w wr v (tops l ++ tops (m.take j))) (fun _ i _ => n' - (numOf i).toNat)
   case atStart => exact ⟨0, rfl, by omega, HO.out⟩
   case round =>
    obtain ⟨j, rfl, hj, hO⟩ := hrel
    have HO2 := hid hO
    clear hO HO
    by_cases hgo : j < n'
    ·have e3 : decide ((j : Int) < n') = true := decide_eq_true (by omega)
     obtain ⟨b, off, s, rfl, _, hsj, _, he⟩ := (H'.out.on HO2.out.bel).el hgo
     obtain ⟨_, c0, c1, c2, c3⟩ := he
     obtain ⟨g1, g2, g3, g4, g5, g6⟩ := K'.out s (List.mem_of_getElem? hsj)
     have HS := hid (tops_snoc hsj)
     have hlen : (tops l ++ tops (m.take j)).length ≤ 4000000 := by have := HL.out; simp only [List.length_append, tops_length, List.length_take]; omega
     have HX := hid (HO2.out.on (below_new wr (ob s)))
     rw [ob] at HX
     clear hsj
     have HOW := hid (HX.out.own.alloc (.cells #[.int .i64 s.y, .int .i64 (s.y + s.h)] 3))
     have HSR := hid (src2 (wr.alloc (.cells #[.int .i64 s.x, .int .i64 s.y, .int .i64 s.w, .int .i64 s.h] 97)) s.y (s.y + s.h))
     rw [World.size_alloc] at HSR
     have HSZ := (HX.out.on (below_new _ (.cells #[.int .i64 s.y, .int .i64 (s.y + s.h)] 3))).size
     have HA : Hid (∀ v' w', w'.ownsRow w.heap.size 3 1 v' ((tops l ++ tops (m.take j)).length + 2) (nums (tops l ++ tops (m.take j)) ++ nums [s.y, s.y + s.h]) → ((wr.alloc (.cells #[.int .i64 s.x, .int .i64 s.y, .int .i64 s.w, .int .i64 s.h] 97)).alloc (.cells #[.int .i64 s.y, .int .i64 (s.y + s.h)] 3)).grownBy w' u5.ownBlock → OwJ w w' v' (tops l ++ tops (m.take (j + 1)))) := fun v' w' o g => by
      rw [HS.out, ← List.append_assoc]
      exact HX.out.grown o g
     clear HO2 HX HS
     generalize tops l ++ tops (m.take j) = K0 at HOW HA hlen
     go_wp2_with (at_builtin; refine wpList_append_own_src _ rfl (.tmp 40) (.tmp 48) 120 120 rfl w.heap.size 3 i0 (.int .i64 0) 1 8 Tryz.underlying120 hi hz0 hz1 hz2 rfl _ _ _ rfl HOW.out _ _ _ rfl HSR.out (by simp only [maxLen]; omega) (fitsI (by omega)) HSZ ?_; intro v3 w3 o3 g3; have H3 := hid (HA.out _ _ o3 g3); clear o3 g3 HA HOW HSR HSZ)
     go_wp2
     go_roundw
     case rel => exact ⟨j + 1, by go_num, by omega, H3.out⟩
     case measure => simp [numOf]; omega
    ·have e3 : decide ((j : Int) < n') = false := decide_eq_false (by omega)
     obtain rfl : j = n' := by omega
     have HF : Hid (tops l ++ tops (m.take j) = tops (l ++ m)) := by rw [Hid, List.take_of_length_le (by rw [HL'.out]; exact Nat.le_refl _), tops_append]
     rw [HF.out] at HO2
     have CS := hid (sorted_once HO2.out (by rw [tops_length, List.length_append]; have := HL.out; have := HL'.out; omega))
     clear HO2 HF
     go_wp2_with fail
     refine CS.out.mono ?_
     rintro e w4 ⟨rfl, hc4⟩
     have CC := hid hc4
     clear hc4
     go_wp2_with fail
     refine CC.out.mono ?_
     rintro e w5 ⟨v5, rfl, h5⟩
     have H5 := hid h5
     clear h5
     go_wp2
     go_ret
     exact ⟨_, rfl, H5.out⟩
end
section
def eqi (a b : List Int) : Bool := decide (a = b)
theorem eqi_cons (x y : Int) (a b : List Int) : eqi (x :: a) (y :: b) = (x == y && eqi a b) := by
 rw [Bool.eq_iff_iff]
 simp [eqi]
theorem eqi_len {a b : List Int} (h : a.length ≠ b.length) : eqi a b = false := by
 rw [eqi, decide_eq_false]
 intro e
 exact h (by rw [e])
theorem equal_any (a a' : Option Addr) (n c n' c' : Nat) (l m : List Int) (w : World) (h : RdJ w a n c l) (h' : RdJ w a' n' c' m) :
  Calls Tryz.prog 266 #[.slice a n c, .slice a' n' c'] w fun e w' => e = .returned (.bool (eqi l m)) ∧ ∃ q, w' = w.drewN q := by
 have hl := h.len
 have hl' := h'.len
 have hn63 := h.small.1
 have hn63' := h'.small.1
 by_cases hnn : n = n'
 ·subst hnn
  have H := hid h
  have H' := hid h'
  have HL := hid hl
  have HL' := hid hl'
  clear h h' hl hl'
  go_enter Tryz.func266, Tryz.ntmps266
  go_wp2
  go_loopw [13] (fun i wr => ∃ j : Nat, i = .int .i64 j ∧ j ≤ n ∧ eqi (l.drop j) (m.drop j) = eqi l m ∧ ∃ q, wr = w.drewN q) (fun i _ => n - (numOf i).toNat)
  case atStart => exact ⟨0, rfl, by omega, rfl, 0, rfl⟩
  case round =>
   obtain ⟨j, rfl, hj, hq, q, rfl⟩ := hrel
   by_cases hgo : j < n
   ·have e1 : decide ((j : Int) < n) = true := decide_eq_true (by omega)
    have e2 : (j : Int) < n := by omega
    obtain ⟨b, off, x, rfl, _, hx, c0⟩ := H.out.el hgo
    obtain ⟨b', off', y, rfl, _, hy, d0⟩ := H'.out.el hgo
    have HD : Hid (eqi l m = (x == y && eqi (l.drop (j + 1)) (m.drop (j + 1)))) := by
     rw [Hid, ← hq, drop_at hx, drop_at hy, eqi_cons]
    clear hx hy hq
    cases hs : (x == y)
    ·have HE : Hid (eqi l m = false) := by rw [Hid, HD.out, hs]; rfl
     go_wp2
     go_quiet (fail)
     go_wp2
     go_ret
     rw [HE.out, World.drewN_drewN]
     exact ⟨rfl, _, rfl⟩
    ·have HE : Hid (eqi (l.drop (j + 1)) (m.drop (j + 1)) = eqi l m) := by rw [Hid, HD.out, hs]; rfl
     go_wp2
     go_quiet (fail)
     go_wp2
     go_roundw
     case rel => exact ⟨j + 1, by go_num, by omega, HE.out, _, rfl⟩
     case measure => simp [numOf]; omega
   ·have e1 : decide ((j : Int) < n) = false := decide_eq_false (by omega)
    have HE : Hid (eqi l m = true) := by
     rw [Hid, ← hq, List.drop_eq_nil_of_le (by rw [HL.out]; omega), List.drop_eq_nil_of_le (by rw [HL'.out]; omega)]
     rfl
    clear hq
    go_wp2
    go_ret
    rw [HE.out]
    exact ⟨rfl, _, rfl⟩
 ·have HE : Hid (eqi l m = false) := eqi_len (by omega)
  have e1 : ((n : Int) == n') = false := by simp; omega
  clear h h' hl hl'
  go_enter Tryz.func266, Tryz.ntmps266
  go_wp2
  go_ret
  rw [HE.out]
  exact ⟨rfl, 0, rfl⟩
def tk1 (a b : List Int) : Bool := match a with
 | [] => false
 | x :: _ => x == lst a b
theorem mix_nil (f : Bool → Bool → Bool) (p q r : Bool) : mix f p q r [] [] = [] := by rw [mix]
def bx (p q : Bool) : Bool := if q = true then !p else p
def dn (p : Bool) (l : List Int) : List Int := if p = true then l.tail else l
theorem mix_step (f : Bool → Bool → Bool) (p q r : Bool) (a b : List Int) (h : a ≠ [] ∨ b ≠ []) :
  mix f p q r a b = if f (bx p (tk1 a b)) (bx q (tk1 b a)) = r then mix f (bx p (tk1 a b)) (bx q (tk1 b a)) r (dn (tk1 a b) a) (dn (tk1 b a) b) else lst a b :: mix f (bx p (tk1 a b)) (bx q (tk1 b a)) (!r) (dn (tk1 a b) a) (dn (tk1 b a) b) := by
 match a, b with
 | [], [] => simp at h
 | x :: a, [] => rw [mix]; simp [tk1, lst, bx, dn]
 | [], y :: b => rw [mix]; simp [tk1, lst, bx, dn]
 | x :: a, y :: b =>
  rw [mix]
  rcases Int.lt_trichotomy x y with h1 | h1 | h1
  ·have e1 : tk1 (x :: a) (y :: b) = true := by simp [tk1, lst]; omega
   have e2 : tk1 (y :: b) (x :: a) = false := by simp [tk1, lst]; omega
   have e3 : lst (x :: a) (y :: b) = x := by simp [lst]; omega
   rw [if_pos h1, e1, e2, e3]
   simp [bx, dn]
  ·subst h1
   have e1 : tk1 (x :: a) (x :: b) = true := by simp [tk1, lst]
   have e2 : tk1 (x :: b) (x :: a) = true := by simp [tk1, lst]
   have e3 : lst (x :: a) (x :: b) = x := by simp [lst]
   rw [if_neg (by omega), if_neg (by omega), e1, e2, e3]
   simp [bx, dn]
  ·have e1 : tk1 (x :: a) (y :: b) = false := by simp [tk1, lst]; omega
   have e2 : tk1 (y :: b) (x :: a) = true := by simp [tk1, lst]; omega
   have e3 : lst (x :: a) (y :: b) = y := by simp [lst]; omega
   rw [if_neg (by omega), if_pos h1, e1, e2, e3]
   simp [bx, dn]
end
end Go.Proofs.YtpbgbpcdohdecaaGreatDoor
