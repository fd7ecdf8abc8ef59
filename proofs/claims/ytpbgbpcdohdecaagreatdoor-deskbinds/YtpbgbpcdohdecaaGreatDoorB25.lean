/- Lemmas that the proof leans on. -/
import Derived.Test.YtpbgbpcdohdecaaGreatDoorB24
import Derived.Laws.EntriesVeiled
namespace Go.Proofs.YtpbgbpcdohdecaaGreatDoor
open Go Go.RowKit
set_option maxRecDepth 100000
set_option maxHeartbeats 2000000
section
open Go.Maps Go.Sort Go.Shelf
theorem compact_upto_PfV (d : Array Int) (hd_StaA : ∀ i j, i ≤ j → j < d.size → d[i]! ≤ d[j]!) : ∀ m, m ≤ d.size → (Lib.compactUpTo d m).Pairwise (· < ·) ∧ (∀ x ∈ Lib.compactUpTo d m, 0 < m ∧ x ≤ d[m - 1]!) ∧ ∀ x, x ∈ Lib.compactUpTo d m ↔ ∃ i < m, d[i]! = x
 | 0, _ => by simp [Lib.compactUpTo]
 | m + 1, hm => by
  obtain ⟨h1, h2, h3⟩ := compact_upto_PfV d hd_StaA m (by omega)
  rw [Lib.compactUpTo_succ]
  by_cases hk : Lib.keeps d m = true
  ·rw [if_pos hk]
   have hlt : ∀ x ∈ Lib.compactUpTo d m, x < d[m]! := fun x hx => by
    obtain ⟨g1, g2⟩ := h2 x hx
    have g3 := hd_StaA (m - 1) m (by omega) (by omega)
    have g4 : m = 0 ∨ d[m]! ≠ d[m - 1]! := by simpa [Lib.keeps] using hk
    rcases g4 with g4 | g4
    ·omega
    ·have : d[m - 1]! ≠ d[m]! := fun e => g4 e.symm
     omega
   refine ⟨?_, fun x hx => ?_, fun x => ?_⟩
   ·rw [List.pairwise_append]
    exact ⟨h1, by simp, fun x hx y hy => by simp only [List.mem_singleton] at hy; rw [hy]; exact hlt x hx⟩
   ·refine ⟨by omega, ?_⟩
    rcases List.mem_append.1 hx with hx | hx
    ·have := hlt x hx; rw [Nat.add_sub_cancel]; omega
    ·simp only [List.mem_singleton] at hx; rw [hx, Nat.add_sub_cancel]; exact Int.le_refl _
   ·rw [List.mem_append, h3]
    constructor
    ·rintro (⟨i, hi, e⟩ | hx)
     ·exact ⟨i, by omega, e⟩
     ·simp only [List.mem_singleton] at hx; exact ⟨m, by omega, hx.symm⟩
    ·rintro ⟨i, hi, e⟩
     rcases Nat.lt_or_ge i m with h | h
     ·exact .inl ⟨i, h, e⟩
     ·obtain rfl : i = m := by omega
      exact .inr (by simp [e])
  ·rw [if_neg hk, List.append_nil]
   have g : m ≠ 0 ∧ d[m]! = d[m - 1]! := by simpa [Lib.keeps] using hk
   refine ⟨h1, fun x hx => ⟨by omega, ?_⟩, fun x => ?_⟩
   ·rw [Nat.add_sub_cancel, g.2]; exact (h2 x hx).2
   ·rw [h3]
    constructor
    ·rintro ⟨i, hi, e⟩; exact ⟨i, by omega, e⟩
    ·rintro ⟨i, hi, e⟩
     rcases Nat.lt_or_ge i m with h | h
     ·exact ⟨i, h, e⟩
     ·obtain rfl : i = m := by omega
      exact ⟨i - 1, by omega, by rw [← g.2]; exact e⟩
theorem below_grow_PfV {B : Nat} {w0 w : World} (h : RowKit.Below B w0 w) (hB : B ≤ w.heap.size) (os : Array Obj) : RowKit.Below B w0 (Sort.grow w os) :=
 ⟨h.os, h.tape, h.output, by rw [size_grow]; have := h.size; omega, fun k hk => by
  rw [← h.block k hk]
  unfold Sort.grow
  simp only
  rw [Array.getElem?_append_left (by omega)]⟩
theorem compact_len_PfV (zs : List Int) : (Lib.compact zs).length ≤ zs.length := by
 rw [Lib.compact, Lib.compactUpTo, List.length_map]
 exact Nat.le_trans (List.length_filter_le _ _) (by simp)
theorem compact_ris (l : List Int) : Ris (Lib.compact (l.mergeSort fun x y => decide (x ≤ y))) ∧ ∀ x, x ∈ Lib.compact (l.mergeSort fun x y => decide (x ≤ y)) ↔ x ∈ l := by
 obtain ⟨zs, hz⟩ : ∃ zs, zs = l.mergeSort fun x y => decide (x ≤ y) := ⟨_, rfl⟩
 have hp : zs.Pairwise (fun a b => decide (a ≤ b) = true) := by
  rw [hz]
  exact List.pairwise_mergeSort (fun a b c h1 h2 => by simp at h1 h2 ⊢; omega) (fun a b => by simp; omega) _
 have hm : ∀ x, x ∈ zs ↔ x ∈ l := fun x => by rw [hz]; exact (List.mergeSort_perm _ _).mem_iff
 rw [← hz]
 have hg : ∀ i, i < zs.toArray.size → zs.toArray[i]! = zs[i]! := fun i hi => by simp
 obtain ⟨h1, _, h3⟩ := compact_upto_PfV zs.toArray (fun i j hij hj => by
  rw [hg i (by omega), hg j hj]
  simp only [List.size_toArray] at hj
  rw [getElem!_pos zs i (by omega), getElem!_pos zs j hj]
  rcases Nat.lt_or_ge i j with h | h
  ·have := List.pairwise_iff_getElem.1 hp i j (by omega) hj h
   simpa using this
  ·obtain rfl : i = j := by omega
   exact Int.le_refl _) zs.toArray.size (Nat.le_refl _)
 have e : Lib.compact zs = Lib.compactUpTo zs.toArray zs.toArray.size := by rw [Lib.compact, List.size_toArray]
 refine ⟨by rw [e]; exact h1, fun x => ?_⟩
 rw [e, h3, ← hm]
 constructor
 ·rintro ⟨i, hi, e⟩
  rw [hg i hi] at e
  simp only [List.size_toArray] at hi
  rw [getElem!_pos zs i hi] at e
  rw [← e]
  exact List.getElem_mem hi
 ·intro h
  obtain ⟨i, hi, e⟩ := List.mem_iff_getElem.1 h
  exact ⟨i, by simpa using hi, by rw [hg i (by simpa using hi), getElem!_pos zs i hi]; exact e⟩
theorem sortedZ {w u : World} {v : Value} {zs : List Int} (h : OwZ w u v zs) (hn : zs.length ≤ 4000000) :
  Calls Tryz.prog 99 #[v] u fun e u1 => e = .returned (.tuple #[]) ∧ Calls Tryz.prog 100 #[v] u1 fun e u2 => ∃ v' ys, e = .returned v' ∧ OwZ w u2 v' ys ∧ Ris ys ∧ ∀ x, x ∈ ys ↔ x ∈ zs := by
 obtain ⟨hris, hmem⟩ := compact_ris zs
 rcases h.own.2 with ⟨rfl, h0⟩ | ⟨g, cap, cur, rfl, hb, hg, hnc, hm, hcs, ht⟩
 ·obtain rfl : zs = [] := List.eq_nil_of_length_eq_zero h0
  refine (AnyM.slices_Sort_int_none sortA_ShlF none 0 u).mono ?_
  rintro e u1 ⟨rfl, rfl⟩
  refine ⟨rfl, (AnyG.slices_Compact_int_empty compA_ShlF none 0 _).mono ?_⟩
  rintro e u2 ⟨rfl, rfl⟩
  exact ⟨_, [], rfl, ⟨World.ownsRow_nil _ _ _ _, h.bel⟩, List.Pairwise.nil, fun x => Iff.rfl⟩
 ·have hgl := (h.own.lt g rfl)
  obtain ⟨_, _, e0, _, _, _, _, _, hH⟩ := Lib.holds_of_ownsRow (enc := Value.int .i64) h.own (by simp)
  cases e0
  refine (AnyM.slices_Sort_int sortA_ShlF g 0 cap zs u hH hgl.2 (by omega)).mono ?_
  rintro e u1 ⟨rfl, n, os, rfl⟩
  have hlen : (zs.mergeSort fun x y => decide (x ≤ y)).length = zs.length := List.length_mergeSort _
  have own1 := ownsRow_sortedI (w := u) (base := w.heap.size) (g := g) (cap := cap) (n := n) (os := os) (e := 3) (ss := zs) (ts := zs.mergeSort fun x y => decide (x ≤ y)) hlen hb hg hnc hm hcs
  have bel1 : RowKit.Below w.heap.size w (Sort.grow (putRow (Value.int .i64) (Sort.ahead u n) g 0 (zs.mergeSort fun x y => decide (x ≤ y)).toArray) os) := below_grow_PfV (Lib.below_putRow h.bel hb) (by
   have := h.bel.size
   simpa [putRow, mapBlock, Sort.ahead] using this) os
  refine ⟨rfl, ?_⟩
  generalize Sort.grow (putRow (Value.int .i64) (Sort.ahead u n) g 0 (zs.mergeSort fun x y => decide (x ≤ y)).toArray) os = u1 at own1 bel1
  generalize (zs.mergeSort fun x y => decide (x ≤ y)) = ss at own1 hlen hris hmem
  rw [← hlen] at own1 hnc ⊢
  obtain ⟨_, _, e0, _, _, _, _, _, hH1⟩ := Lib.holds_of_ownsRow (enc := Value.int .i64) own1 (by simp)
  cases e0
  refine (AnyG.slices_Compact_int compA_ShlF g 0 cap ss u1 hH1 (by omega) hnc).mono ?_
  rintro e u2 ⟨rfl, q, rfl⟩
  have hc := compact_len_PfV ss
  have own2 := Lib.ownsRow_putRow (enc := Value.int .i64) (q := q) (k := (Lib.compact ss).length) own1 (ys := Lib.compact ss ++ List.replicate (ss.length - (Lib.compact ss).length) 0) (by simp; omega) hc
  rw [List.take_left] at own2
  exact ⟨_, _, rfl, ⟨own2, Lib.below_putRow bel1 hb⟩, hris, hmem⟩
variable {base B : Nat} {w u w' : World} {p m : Nat} {L L' : Po} {F : Fo} {id : Int} {es : List Addr} {e : Ps}
def hlx (e : Ps) : List Int := (if e.s.ca.at_ = true ∧ 0 < e.s.ca.buf then [e.s.ca.buf] else []) ++ (if 0 < e.s.no.buf then [e.s.no.buf] else [])
theorem hlx_len (e : Ps) : (hlx e).length ≤ 2 := by
 unfold hlx
 split <;> split <;> simp
structure He (w : World) (m : Nat) (L : Po) (D : DataW Unit) (r : Nat) (v : Value) (left : Lit → Bool) (cnt : Nat) (zs : List Int) (wr : World) : Prop where
 rg : wr.ranges Tryz.prog 3 ptR m r L.length D left cnt
 own : OwZ w wr v zs
 lo : w.heap.size ≤ r
 ne : v.ownBlock ≠ some r
 mem : ∀ x, x ∈ zs ↔ ∃ k e, gt L k = some e ∧ left (.int .i64 k) = false ∧ x ∈ hlx e
 len : zs.length + 2 * cnt ≤ 2 * L.length
theorem mem_hldL (L : Po) (hn : (keys L).Nodup) (x : Int) : (∃ k e, gt L k = some e ∧ x ∈ hlx e) ↔ 0 < x ∧ x ∈ hldL (pab L) := by
 have hx : ∀ e : Ps, x ∈ hlx e ↔ 0 < x ∧ x ∈ (bif e.s.f.ca.at_ then [e.s.f.ca.buf] else []) ++ [e.s.f.no.buf] := fun e => by
  show _ ↔ 0 < x ∧ x ∈ (bif e.s.ca.at_ then [e.s.ca.buf] else []) ++ [e.s.no.buf]
  unfold hlx
  cases e.s.ca.at_
  ·simp only [Bool.false_eq_true, false_and, if_false, List.nil_append, cond_false, List.mem_singleton]
   constructor
   ·intro h
    split at h
    ·simp at h
     exact ⟨by omega, h⟩
    ·cases h
   ·rintro ⟨h0, h⟩
    rw [if_pos (by omega)]
    simp [h]
  ·simp only [true_and, cond_true, List.mem_append, List.mem_singleton]
   constructor
   ·rintro (h | h)
    ·split at h
     ·simp at h
      exact ⟨by omega, .inl h⟩
     ·cases h
    ·split at h
     ·simp at h
      exact ⟨by omega, .inr h⟩
     ·cases h
   ·rintro ⟨h0, h | h⟩
    ·exact .inl (by rw [if_pos (by omega)]; simp [h])
    ·exact .inr (by rw [if_pos (by omega)]; simp [h])
 rw [hldL, List.mem_flatMap]
 constructor
 ·rintro ⟨k, e, he, h⟩
  obtain ⟨h0, h1⟩ := (hx e).1 h
  exact ⟨h0, (k, e.s.f), List.mem_map.2 ⟨(k, e), gt_mem he, rfl⟩, h1⟩
 ·rintro ⟨h0, y, hy, h⟩
  obtain ⟨z, hz, rfl⟩ := List.mem_map.1 hy
  exact ⟨z.1, z.2, gt_of_mem hn hz, (hx z.2).2 ⟨h0, h⟩⟩
theorem He.come {D : DataW Unit} {r cnt : Nat} {v : Value} {left : Lit → Bool} {zs : List Int} {wr w2 : World} (h : He w m L D r v left cnt zs wr) (h1 : Pf base w p m L) (hD : Rp ptd none D (pmp L)) {x : Int} {c : Option Nat} {kl : Lit} {y : DataW Unit × List MemPlace} {cnt' : Nat}
  (hk : keyOf Tryz.prog 3 (.int .i64 x) = some kl) (hl : left kl = true) (hv : ptR (ptv c) = some y) (hat : ∀ zd, D.atKey kl zd = y.1) (hr : w2.ranges Tryz.prog 3 ptR m r L.length D (fun z => left z && !z.sameKey kl) cnt') (hlt : cnt' < cnt) (hg : wr.grownBy w2 (some r)) :
  ∃ e1, gt L x = some e1 ∧ c = some e1.g ∧ Pf base w2 p m L ∧ Below w.heap.size w w2 ∧ OwZ w w2 v zs ∧ r < w2.heap.size ∧
   ∀ (w3 : World) (v3 : Value), OwZ w w3 v3 (zs ++ hlx e1) → Kp v.ownBlock.toList w2 w3 → v3.ownBlock ≠ some r → ∃ lf cn zs', He w m L D r v3 lf cn zs' w3 ∧ cn < cnt := by
 obtain rfl : kl = .int .i64 x := by
  obtain ⟨z, h2, h3, _⟩ := Maps.keyOf_int_inv Tryz.underlying3 hk
  cases h2
  exact h3
 have hpt : c = (gt (pmp L) x).getD none := by
  have h2 := (hD x).2
  rw [hat] at h2
  have h3 : ptR (ptv c) = some (ptd c, []) := ptR_mk c
  rw [hv] at h3
  have h4 : y.1 = ptd c := by rw [Option.some.inj h3]
  rw [h4] at h2
  have h5 := ptR_mk c
  rw [h2] at h5
  have h6 := ptR_inv h5
  cases c with
  | none =>
   cases hq : (gt (pmp L) x).getD none with
   | none => rfl
   | some q => rw [hq] at h6; cases h6
  | some c =>
   cases hq : (gt (pmp L) x).getD none with
   | none => rw [hq] at h6; cases h6
   | some q =>
    rw [hq] at h6
    simp only [ptv, Value.pointer.injEq, Option.some.injEq, Addr.mk.injEq, and_true] at h6
    rw [h6]
 have hh : (gt (pmp L) x).isSome = true := by
  rw [← (hD x).1]
  cases hc : Maps.has D (.int .i64 x) with
  | true => rfl
  | false =>
   obtain ⟨es, clock, since, seen, c0, _, F, _, hDD, _, _, _, hl1, hl2, _⟩ := h.rg
   obtain ⟨z, hz, hkz⟩ := hl2 _ hl
   have : Maps.has D (.int .i64 x) = true := by
    rw [hDD]
    exact List.any_eq_true.2 ⟨Go.WideElems.rg Tryz.prog 3 ptR z, mem_sorted.2 (List.mem_map.2 ⟨z, hz, rfl⟩), by rw [hkz]; exact WideAt.sameKey_self trivial⟩
   rw [this] at hc
   cases hc
 rw [gt_pmp] at hh hpt
 obtain ⟨e1, he1⟩ : ∃ e1, gt L x = some e1 := by
  cases hq : gt L x with
  | none => rw [hq] at hh; cases hh
  | some e1 => exact ⟨e1, rfl⟩
 rw [he1] at hpt
 have hbel : Below w.heap.size w w2 := h.own.bel.grown hg (by have := h.own.bel.size; omega) (fun k hk => by cases hk; exact h.lo)
 have hown : OwZ w w2 v zs := ⟨(kp_of_grown hg).row h.own.own (fun b hb hm => by
  simp only [Option.toList_some, List.mem_cons, List.not_mem_nil, or_false] at hm
  rw [hm] at hb
  exact h.ne hb), hbel⟩
 refine ⟨e1, he1, hpt, h1.on hbel, hbel, hown, hr.lt, fun w3 v3 ho hkp hne => ⟨fun z => left z && !z.sameKey (.int .i64 x), cnt', _, ⟨?_, ho, h.lo, hne, fun z => ?_, ?_⟩, hlt⟩⟩
 ·refine hr.kept (row := v.ownBlock) ⟨hkp.os, hkp.tape, hkp.output, hkp.size, fun k hk hn => hkp.block k hk (fun hm => hn (Option.mem_toList.1 hm).symm)⟩ ?_ ?_
  ·intro e2
   have := (hown.own.lt m e2.symm).1
   have := h1.lt.2
   omega
  ·exact fun e2 => h.ne e2.symm
 ·rw [List.mem_append, h.mem]
  constructor
  ·rintro (⟨k, e, hk, hlf, hz⟩ | hz)
   ·exact ⟨k, e, hk, by simp [hlf], hz⟩
   ·exact ⟨x, e1, he1, by simp [same_int], hz⟩
  ·rintro ⟨k, e, hk', hlf, hz⟩
   rw [same_int] at hlf
   by_cases hkx : k = x
   ·rw [hkx, he1] at hk'
    cases hk'
    exact .inr hz
   ·exact .inl ⟨k, e, hk', by simpa [hkx] using hlf, hz⟩
 ·have := hlx_len e1
  have := h.len
  rw [List.length_append]
  omega
structure Ay (w w3 : World) (v0 : Value) (W : World) (v : Value) (zs : List Int) : Prop where
 own : OwZ w W v zs
 kp : Kp v0.ownBlock.toList w3 W
 vn : ∀ b, v.ownBlock = some b → v0.ownBlock = some b ∨ w3.heap.size ≤ b
theorem Ay.app {w3 W w4 : World} {v0 v v4 : Value} {zs : List Int} {z : Int} (h : Ay w w3 v0 W v zs) (o4 : w4.ownsRow w.heap.size 3 1 v4 (zs.length + 1) (ic zs ++ ic [z])) (g4 : (W.alloc (.cells #[.int .i64 z] 3)).grownBy w4 v.ownBlock) (a4 : v4.ownBlock = v.ownBlock ∨ v4.ownBlock = some (W.alloc (.cells #[.int .i64 z] 3)).heap.size) : Ay w w3 v0 w4 v4 (zs ++ [z]) := by
 have hb := bel_new W (.cells #[.int .i64 z] 3)
 have hsz := h.kp.size
 have hk := kp_of_grown g4
 refine ⟨⟨by rw [List.length_append, ic_append]; exact o4, (Below.on h.own.bel hb).grown g4 (by rw [size_new]; have := h.own.bel.size; omega) (fun k hk => (h.own.own.lt k hk).1)⟩, (h.kp.trans (kp_of_below hb []) (fun k hk _ => by cases hk)).trans hk (fun k hk hlt => ?_), fun b hb' => ?_⟩
 ·rcases h.vn k (by simpa using hk) with h1 | h1
  ·simpa using h1
  ·omega
 ·rcases a4 with h1 | h1
  ·rw [h1] at hb'
   exact h.vn b hb'
  ·rw [h1, size_new] at hb'
   cases hb'
   exact .inr (by omega)
theorem fheld_any (h : Pf base w p m L) (hl : L.length ≤ 40) :
  Calls Tryz.prog 54 #[.pointer (some ⟨p, 0, none⟩)] w fun e' w' => ∃ v ys, e' = .returned v ∧ OwZ w w' v ys ∧ Ris ys ∧ ∀ x, x ∈ ys ↔ 0 < x ∧ x ∈ hldL (pab L) := by
 obtain ⟨D, hown, hD⟩ := h.own
 have HO := hid hown
 have HD := hid hD
 have H := hid h
 have c0 := h.c0
 have l0 := h.lt.1
 obtain ⟨i0, hi, hz0, hz1, hz2⟩ := infoMP infoM1
 have HHL := hid (mem_hldL L h.nd)
 clear h hown hD
 go_enter Tryz.func54, Tryz.ntmps54
 go_wp2_with (at_range; refine wpList_range_own _ rfl (.tmp 9) 114 rfl 3 205 (Maps.int_keyed Tryz.underlying3) Tryz.underlying114 ptR m _ D rfl HO.out ?_; intro w2 hrg hg2 hs2)
 have HS : Hid (He w m L D w.heap.size (.slice none 0 0) (Maps.has D) (Maps.size D) [] w2) := by
  refine ⟨hrg, ⟨World.ownsRow_nil _ _ _ _, ⟨hg2.os, hg2.tape, hg2.output, hg2.size, fun k hk => hg2.block k hk (by simp)⟩⟩, Nat.le_refl _, by simp [Value.ownBlock], fun x => ?_, ?_⟩
  ·constructor
   ·intro hx
    cases hx
   ·rintro ⟨k, e, hk, hlf, _⟩
    rw [(HD.out k).1, gt_pmp, hk] at hlf
    cases hlf
  ·have := psize HO.out Tryz.underlying3 HD.out (by rw [pmp_keys]; exact H.out.nd)
   rw [pmp_length] at this
   simp [this]
 clear hrg hg2 hs2
 go_frame
 go_loopw [3] (fun v wr => ∃ lf cn zs, He w m L D w.heap.size v lf cn zs wr) (fun _ wr => wr.rangeLeft m w.heap.size)
 case atStart => exact ⟨_, _, _, HS.out⟩
 case round =>
  obtain ⟨lf, cn, zs, hHe⟩ := hrel
  have HH := hid hHe
  clear hHe HS
  go_wp2_with (at_next; refine wpList_next_ranges _ rfl (.tmp 10) rfl 3 (Maps.int_keyed Tryz.underlying3) ptR (Value.int .i64) ptv (fun key kl hkey => by obtain ⟨x, rfl, _⟩ := Maps.keyOf_int_inv Tryz.underlying3 hkey; exact ⟨x, rfl⟩) (fun v y hv => ptR_val hv) m w.heap.size _ _ _ _ rfl HH.out.rg ?_ ?_)
  ·intro hc0 hl0
   have HX : Hid (∀ ys : List Int, (∀ x, x ∈ ys ↔ x ∈ zs) → ∀ x, x ∈ ys ↔ 0 < x ∧ x ∈ hldL (pab L)) := fun ys hy x => by
    rw [hy, HH.out.mem, ← HHL.out]
    constructor
    ·rintro ⟨k, e, h1, _, h3⟩
     exact ⟨k, e, h1, h3⟩
    ·rintro ⟨k, e, h1, h3⟩
     exact ⟨k, e, h1, hl0 _, h3⟩
   have CSO := hid (sortedZ HH.out.own (by have := HH.out.len; omega))
   clear hc0 hl0 HH c0 l0
   go_wp2_with fail
   refine CSO.out.mono ?_
   rintro e' w4 ⟨rfl, hC⟩
   have HC := hid hC
   clear hC CSO
   go_wp2_with fail
   refine HC.out.mono ?_
   rintro e' w5 ⟨v5, ys, rfl, ho5, hr5, hm5⟩
   have HY : Hid (∃ v ys, Ending.returned v5 = .returned v ∧ OwZ w w5 v ys ∧ Ris ys ∧ ∀ x, x ∈ ys ↔ 0 < x ∧ x ∈ hldL (pab L)) := ⟨v5, ys, rfl, ho5, hr5, HX.out ys hm5⟩
   clear ho5 hr5 hm5 HC HX
   go_wp2
   go_ret
   exact HY.out
  ·intro x c kl y1 y2 w3 cnt3 hkx hlx' hvx hat hrg3 hlt3 hg3 hs3 hen
   obtain ⟨e1, he1, rfl, hpf3, hb3, ho3, hr3, hfin⟩ := HH.out.come H.out HD.out (y := (y1, y2)) hkx hlx' hvx hat hrg3 hlt3 hg3
   have HLT : Hid (∀ k, k < cn → k < wr.rangeLeft m w.heap.size) := fun k hk => by rw [HH.out.rg.left_eq]; exact hk
   have hzl : zs.length ≤ 80 := by have := HH.out.len; omega
   have HFIN := hid hfin
   have HO3 := hid ho3
   have HNE := hid HH.out.ne
   have HLO := hid HH.out.lo
   obtain ⟨⟨-, -, -, -, -, -, -, -, -, -⟩, ⟨a0, a1, -, -, -, -, -, -, -, -⟩, ⟨-, b1, -, -, -, -, -, -, -, -⟩⟩ := hpf3.cells he1
   have l3 := (hpf3.wlt he1 (mem_wb.2 (.inl rfl))).2
   rw [ptv_some] at hen ⊢
   have HPF := hid hpf3
   have HE1 := hid he1
   have HAY0 : Hid (Ay w w3 u3 w3 u3 zs) := ⟨ho3, Kp.refl _ _, fun b hb => .inl hb⟩
   obtain ⟨y1s, hy1⟩ : ∃ ys, ys = if e1.s.ca.at_ = true ∧ 0 < e1.s.ca.buf then [e1.s.ca.buf] else [] := ⟨_, rfl⟩
   obtain ⟨y2s, hy2⟩ : ∃ ys, ys = if 0 < e1.s.no.buf then [e1.s.no.buf] else [] := ⟨_, rfl⟩
   have HHX : Hid (hlx e1 = y1s ++ y2s) := by rw [Hid, hlx, hy1, hy2]
   have HY1 := hid hy1
   have HY2 := hid hy2
   have HL3 := hid hr3
   have HL4 := hid l3
   have HPW := hid (fun (W : World) (hW : Below w.heap.size w W) => H.out.on hW)
   obtain ⟨va, vc, hvv⟩ := own_val ho3.own
   clear he1 hkx hlx' hvx hat hrg3 hlt3 hg3 hs3 hfin ho3 hpf3 HH c0 l0 hb3 hy1 hy2
   subst hvv
   obtain ⟨b27, hb27⟩ : ∃ b, b = (e1.s.ca.at_ && decide (e1.s.ca.buf > 0)) := ⟨_, rfl⟩
   have HB27 := hid hb27
   clear hb27
   go_upto_region 5 with fail
   go_cut [27] (fun v wc => v = .bool b27 ∧ wc = w3)
   case first =>
    cases hat1 : e1.s.ca.at_
    ·have hb : b27 = false := by rw [HB27.out, hat1]; rfl
     rw [hat1] at a0
     go_wp2
     go_meet
     rw [hb]
     exact ⟨rfl, rfl⟩
    ·have hb : b27 = decide (e1.s.ca.buf > 0) := by rw [HB27.out, hat1]; rfl
     rw [hat1] at a0
     go_wp2
     go_meet
     rw [hb]
     exact ⟨rfl, rfl⟩
   obtain ⟨rfl, hwc⟩ := hcut
   obtain rfl : w3 = wc := hwc.symm
   clear a0 hwc
   go_upto_if 27 with fail
   go_cut [3] (fun v wc => ∃ a c, v = .slice a (zs ++ y1s).length c ∧ Ay w w3 (.slice va zs.length vc) wc v (zs ++ y1s))
   case first =>
    cases hbb : b27
    ·have hy : y1s = [] := by
      rw [HY1.out, if_neg]
      rintro ⟨h1, h2⟩
      rw [HB27.out, h1] at hbb
      simp at hbb
      omega
     go_wp2
     go_meet
     rw [hy, List.append_nil]
     exact ⟨_, _, rfl, HAY0.out⟩
    ·have hy : y1s = [e1.s.ca.buf] := by
      rw [HY1.out, if_pos]
      rw [HB27.out] at hbb
      simp at hbb
      exact ⟨hbb.1, by omega⟩
     have HOW := hid (ownsRow_below HAY0.out.own.own (bel_new w3 (.cells #[.int .i64 e1.s.ca.buf] 3)))
     have HSL := hid (srcLit w3 e1.s.ca.buf)
     have hws : w.heap.size ≤ (w3.alloc (.cells #[.int .i64 e1.s.ca.buf] 3)).heap.size := by rw [size_new]; have := HAY0.out.own.bel.size; omega
     have HAP := hid (fun v4 w4 o4 g4 a4 => HAY0.out.app (v4 := v4) (w4 := w4) (z := e1.s.ca.buf) o4 g4 a4)
     generalize hzl2 : zs.length = zl at *
     go_wp2_with (at_builtin; refine wpList_append_own_at_LibD _ rfl (.tmp 28) (.tmp 34) 120 120 rfl w.heap.size 3 i0 (.int .i64 0) 1 8 Tryz.underlying120 hi hz0 hz1 hz2 rfl _ _ _ rfl HOW.out _ _ _ rfl HSL.out (by simp only [maxLen]; omega) (fitsM (by omega) (by decide)) hws ?_; intro v4 w4 o4 g4 a4; obtain ⟨av, cv, hv4⟩ := own_val o4; have HX := hid (HAP.out v4 w4 o4 g4 a4); subst hv4; clear o4 g4 a4)
     go_meet
     rw [hy]
     have hln : (zs ++ [e1.s.ca.buf]).length = zl + 1 := by rw [List.length_append, hzl2]; rfl
     rw [hln]
     exact ⟨_, _, rfl, HX.out⟩
   case rest =>
    obtain ⟨ca1, cc1, rfl, hA⟩ := hcut
    have HA := hid hA
    have hpw := HPW.out _ hA.own.bel
    obtain ⟨-, -, ⟨-, d1, -, -, -, -, -, -, -, -⟩⟩ := hpw.cells HE1.out
    have d2 := (hpw.wlt HE1.out (mem_wb.2 (.inl rfl))).2
    have hzl1 : (zs ++ y1s).length ≤ 81 := by
     rw [List.length_append, HY1.out]
     split
     ·simp; omega
     ·simp; omega
    have HEND : Hid (∀ (w5 : World) (v5 : Value), Ay w w3 (.slice va zs.length vc) w5 v5 ((zs ++ y1s) ++ y2s) → ∃ lf cn2 zs', He w m L D w.heap.size v5 lf cn2 zs' w5 ∧ cn2 < cn) := fun w5 v5 h5 => by
     refine HFIN.out w5 v5 ?_ h5.kp (fun e5 => ?_)
     ·rw [HHX.out, ← List.append_assoc]
      exact h5.own
     ·rcases h5.vn _ e5 with h6 | h6
      ·exact HNE.out h6
      ·have := HL3.out
       omega
    clear hA hpw a1 b1 HFIN HAY0
    cases hbf : decide (0 < e1.s.no.buf)
    ·have hy : y2s = [] := by rw [HY2.out, if_neg (of_decide_eq_false hbf)]
     have hbf' : decide (e1.s.no.buf > 0) = false := hbf
     obtain ⟨lf2, cn2, zs2, hH2, hc2⟩ := HEND.out wc _ (by rw [hy, List.append_nil]; exact HA.out)
     have HH2 := hid hH2
     have HC2 := hid hc2
     clear hH2 hc2
     go_wp2
     go_roundw
     case rel => exact ⟨_, _, _, HH2.out⟩
     case measure =>
      rw [HH2.out.rg.left_eq]
      exact HLT.out _ HC2.out
    ·have hy : y2s = [e1.s.no.buf] := by rw [HY2.out, if_pos (of_decide_eq_true hbf)]
     have hbf' : decide (e1.s.no.buf > 0) = true := hbf
     have HOW := hid (ownsRow_below HA.out.own.own (bel_new wc (.cells #[.int .i64 e1.s.no.buf] 3)))
     have HSL := hid (srcLit wc e1.s.no.buf)
     have hws : w.heap.size ≤ (wc.alloc (.cells #[.int .i64 e1.s.no.buf] 3)).heap.size := by rw [size_new]; have := HA.out.own.bel.size; omega
     have HAP : Hid (∀ v4 w4, w4.ownsRow w.heap.size 3 1 v4 ((zs ++ y1s).length + 1) (ic (zs ++ y1s) ++ ic [e1.s.no.buf]) → (wc.alloc (.cells #[.int .i64 e1.s.no.buf] 3)).grownBy w4 (Value.slice ca1 (zs ++ y1s).length cc1).ownBlock → (v4.ownBlock = (Value.slice ca1 (zs ++ y1s).length cc1).ownBlock ∨ v4.ownBlock = some (wc.alloc (.cells #[.int .i64 e1.s.no.buf] 3)).heap.size) → ∃ lf cn2 zs', He w m L D w.heap.size v4 lf cn2 zs' w4 ∧ cn2 < cn) := fun v4 w4 o4 g4 a4 => HEND.out w4 v4 (by rw [hy]; exact HA.out.app o4 g4 a4)
     generalize (zs ++ y1s).length = zl at *
     go_wp2_with (at_builtin; refine wpList_append_own_at_LibD _ rfl (.tmp 42) (.tmp 48) 120 120 rfl w.heap.size 3 i0 (.int .i64 0) 1 8 Tryz.underlying120 hi hz0 hz1 hz2 rfl _ _ _ rfl HOW.out _ _ _ rfl HSL.out (by simp only [maxLen]; omega) (fitsM (by omega) (by decide)) hws ?_; intro v4 w4 o4 g4 a4; obtain ⟨lf2, cn2, zs2, hH2, hc2⟩ := HAP.out v4 w4 o4 g4 a4; have HH2 := hid hH2; have HC2 := hid hc2; clear o4 g4 a4 hH2 hc2)
     go_roundw
     case rel => exact ⟨_, _, _, HH2.out⟩
     case measure =>
      rw [HH2.out.rg.left_eq]
      exact HLT.out _ HC2.out
end
section
structure Pg (es : List Addr) (w0 w : World) (p : Nat) (mm : Nat) (F : Fo) : Prop where
 ex : ∃ m L, Pf w0.heap.size w p m L ∧ pab L = F
 ok : Fok mm F
 fe : Fe w es
 ng : 16 ≤ w0.heap.size
 bel : RowKit.Below w0.heap.size w0 w
variable {es : List Addr} {w0 w w' : World} {p mm : Nat} {F : Fo}
theorem Pg.hld (h : Pg es w0 w p mm F) : Calls Tryz.prog 54 #[.pointer (some ⟨p, 0, none⟩)] w fun e w' => ∃ a c ys, e = .returned (.slice a ys.length c) ∧ Rz w' a ys.length c ys ∧ Ris ys ∧ (∀ x, x ∈ ys ↔ 0 < x ∧ x ∈ hldL F) ∧ Below w.heap.size w w' := by
 obtain ⟨m, L, hP, rfl⟩ := h.ex
 refine (fheld_any hP (by rw [← pab_length L]; exact h.ok.inv.len)).mono fun e w' ⟨v, ys, h1, ho, hr, hm⟩ => ?_
 obtain ⟨a, c, rfl, hr2, _⟩ := ho.rd
 exact ⟨a, c, ys, h1, hr2, hr, hm, ho.bel⟩
end
section
def rbs (L : Po) : List Nat := L.flatMap fun e => (ros e.2.s).flatMap fun z => if 0 < z.n then z.bl else []
theorem mem_rbs {L : Po} (hn : (keys L).Nodup) {b : Nat} : b ∈ rbs L ↔ ¬ Ofr L b := by
 rw [rbs, List.mem_flatMap]
 constructor
 ·rintro ⟨e, he, hb⟩ ho
  obtain ⟨z, hz, hb⟩ := List.mem_flatMap.1 hb
  split at hb
  ·rename_i h0
   obtain ⟨y, hy, e1⟩ := bl_of.1 hb
   exact ho e.1 e.2 (gt_of_mem hn he) z hz y hy h0 e1
  ·cases hb
 ·intro h
  obtain ⟨x, h⟩ := Classical.not_forall.1 h
  obtain ⟨e, h⟩ := Classical.not_forall.1 h
  obtain ⟨he, h⟩ := Classical.not_imp.1 h
  obtain ⟨z, h⟩ := Classical.not_forall.1 h
  obtain ⟨hz, h⟩ := Classical.not_imp.1 h
  obtain ⟨y, h⟩ := Classical.not_forall.1 h
  obtain ⟨hy, h⟩ := Classical.not_imp.1 h
  obtain ⟨h0, h⟩ := Classical.not_imp.1 h
  refine ⟨(x, e), gt_mem he, List.mem_flatMap.2 ⟨z, hz, ?_⟩⟩
  rw [if_pos h0]
  exact bl_of.2 ⟨y, hy, Classical.not_not.1 h⟩
def fbl (p m : Nat) (L : Po) : List Nat := p :: m :: (wbs L ++ rbs L)
theorem mem_fbl {p m : Nat} {L : Po} {b : Nat} : b ∈ fbl p m L ↔ b = p ∨ b = m ∨ b ∈ wbs L ∨ b ∈ rbs L := by
 rw [fbl, List.mem_cons, List.mem_cons, List.mem_append]
def Pq_PgT (es : List Addr) (w0 : World) (p mm : Nat) (F : Fo) : Th := fun w X => RowKit.Below w0.heap.size w0 w ∧ Fe w es ∧ 16 ≤ w0.heap.size ∧ Fok mm F ∧ ∃ m L, Pf w0.heap.size w p m L ∧ pab L = F ∧ (∀ b, b < w0.heap.size → Ofr L b) ∧ X = fbl p m L
variable {X : List Nat} {es : List Addr} {w0 w w' : World} {p mm : Nat} {F : Fo}
theorem Pf.rlt {base m : Nat} {L : Po} (h : Pf base w p m L) {b : Nat} (hb : b ∈ rbs L) : b < w.heap.size := by
 rcases Nat.lt_or_ge b w.heap.size with h1 | h1
 ·exact h1
 ·exact absurd (fun x e he z hz => (h.rows x e he).ros hz h1) ((mem_rbs h.nd).1 hb)
theorem pq_ft (es : List Addr) (w0 : World) (p mm : Nat) (F : Fo) : Ft w0.heap.size (Pq_PgT es w0 p mm F) := by
 refine ⟨fun {w X} h b hb => ?_, fun {w w' X Y} h hk hY hX => ?_⟩
 ·obtain ⟨_, _, _, _, m, L, h1, _, h3, rfl⟩ := h
  rcases mem_fbl.1 hb with rfl | rfl | hb | hb
  ·exact ⟨h1.lop, h1.lt.1⟩
  ·exact ⟨h1.lom, h1.lt.2⟩
  ·obtain ⟨x, e, he, hb⟩ := (mem_wbs h1.nd).1 hb
   exact h1.wlt he hb
  ·refine ⟨?_, h1.rlt hb⟩
   rcases Nat.lt_or_ge b w0.heap.size with h4 | h4
   ·exact absurd (h3 b h4) ((mem_rbs h1.nd).1 hb)
   ·exact h4
 ·obtain ⟨g1, g2, g3, g4, m, L, h1, h2, h3, rfl⟩ := h
  have hb := hk.below g1.size hY
  refine ⟨g1.trans hb, g2.kb hb g3, g3, g4, m, L, h1.kept hk (hX p (mem_fbl.2 (.inl rfl))) (hX m (mem_fbl.2 (.inr (.inl rfl)))) (fun x e he => ⟨fun b hb => hX b (mem_fbl.2 (.inr (.inr (.inl ((mem_wbs h1.nd).2 ⟨x, e, he, hb⟩))))), fun z hz b hb => ?_⟩), h2, h3, rfl⟩
  have hnr : b ∉ rbs L := fun hm => hX b (mem_fbl.2 (.inr (.inr (.inr hm)))) hb
  have ho : Ofr L b := Classical.not_not.1 fun h => hnr ((mem_rbs h1.nd).2 h)
  exact ho x e he z hz
theorem Pq_PgT.pg (h : Pq_PgT es w0 p mm F w X) : Pg es w0 w p mm F := by
 obtain ⟨g1, g2, g3, g4, m, L, h1, h2, _⟩ := h
 exact ⟨⟨m, L, h1, h2⟩, g4, g2, g3, g1⟩
theorem pq_mono {n : Nat} (h : Pq_PgT es w0 p mm F w X) (hn : mm ≤ n) : Pq_PgT es w0 p n F w X := by
 obtain ⟨g1, g2, g3, g4, h⟩ := h
 exact ⟨g1, g2, g3, g4.mono hn, h⟩
theorem pq_new (w0 w : World) (hb : Below w0.heap.size w0 w) (hE : Fe w es) (hn : 16 ≤ w0.heap.size) : Calls Tryz.prog 22 #[] w fun e w' => ∃ p X, e = .returned (.pointer (some ⟨p, 0, none⟩)) ∧ Pq_PgT es w0 p 0 [] w' X ∧ Below w.heap.size w w' ∧ ∀ b ∈ X, w.heap.size ≤ b :=
 (fnew_any w).mono fun _ _ ⟨h1, h2, h3⟩ => ⟨_, _, h1, ⟨Below.on hb h2, hE.on h2, hn, fok_nil, _, _, h3 _ hb.size, rfl, fun b _ x e h => (by cases h), rfl⟩, h2, fun b hb => by
  simp only [fbl, wbs, rbs, List.flatMap_nil, List.append_nil, List.mem_cons, List.not_mem_nil, or_false] at hb
  omega⟩
end
section
def obk (a : Option Addr) : List Nat := (a.map (·.block)).toList
structure Oz (base : Nat) (w : World) (a : Option Addr) (n c : Nat) (l : List Int) : Prop where
 len : l.length = n
 pl : (a = none ∧ n = 0 ∧ c = 0) ∨ ∃ g off cur, a = some ⟨g, off, none⟩ ∧ base ≤ g ∧ w.heap[g]? = some (.cells cur 3 (0, 0)) ∧ off + c ≤ cur.size ∧ n ≤ c ∧ c ≤ maxLen ∧ ∀ j z, l[j]? = some z → cur[off + j]? = some (.int .i64 z)
variable {base : Nat} {w w' : World} {a : Option Addr} {n c : Nat} {l : List Int}
theorem Oz.kp (h : Oz base w a n c l) {X : List Nat} (hk : Kp X w w') (hX : ∀ b ∈ obk a, b ∉ X) : Oz base w' a n c l := by
 refine ⟨h.len, ?_⟩
 rcases h.pl with q | ⟨g, off, cur, rfl, hb, hg, q⟩
 ·exact .inl q
 ·exact .inr ⟨g, off, cur, rfl, hb, hk.var hg (hX g (by simp [obk])), q⟩
theorem Oz.lt (h : Oz base w a n c l) {b : Nat} (hb : b ∈ obk a) : base ≤ b ∧ b < w.heap.size := by
 rcases h.pl with ⟨rfl, _⟩ | ⟨g, off, cur, rfl, hb', hg, _⟩
 ·simp [obk] at hb
 ·obtain rfl : b = g := by simpa [obk] using hb
  exact ⟨hb', (Array.getElem?_eq_some_iff.1 hg).1⟩
section
variable {P : Program}
end
end
section
structure Pw_ShB where
 g : Nat
 a : Option Addr
 n : Nat
 c : Nat
 s : Wn
abbrev Pwl := List (Int × Pw_ShB)
def wab (L : Pwl) : Wo := L.map fun e => (e.1, e.2.s)
def wmp (L : Pwl) : List (Int × Option Nat) := L.map fun e => (e.1, some e.2.g)
theorem gt_of_memw {α : Type} {l : List (Int × α)} (hn : (keys l).Nodup) {x : Int × α} (hx : x ∈ l) : gt l x.1 = some x.2 := by
 induction l with
 | nil => cases hx
 | cons e l ih =>
  rw [keys, List.map_cons, List.nodup_cons] at hn
  rw [gt]
  rcases List.mem_cons.1 hx with rfl | hx
  ·rw [if_pos rfl]
  ·rw [if_neg (fun he => hn.1 (by rw [he]; exact List.mem_map_of_mem (f := fun e : Int × α => e.1) hx))]
   exact ih hn.2 hx
def pwd : Option Nat → DataW Unit
 | none => .nil
 | some g => .agg [.lit (.int .i64 g)]
def pwR : Value → Option (DataW Unit × List MemPlace)
 | .pointer none => some (.nil, [])
 | .pointer (some ⟨g, 0, none⟩) => some (.agg [.lit (.int .i64 g)], [])
 | _ => none
def wbk (e : Pw_ShB) : List Nat := e.g :: obk e.a
structure Sh (base : Nat) (w : World) (p m : Nat) (L : Pwl) : Prop where
 lop : base ≤ p
 lom : base ≤ m
 ne : p ≠ m
 obj : w.heap[p]? = some (.cells #[.map (some m)] 119 (0, 0))
 own : ∃ D, w.ownsMap Tryz.prog 3 pwR m L.length D ∧ Rp pwd none D (wmp L)
 nd : (keys L).Nodup
 win : ∀ x e, gt L x = some e → w.heap[e.g]? = some (.cells #[.int .i64 e.s.step, .slice e.a e.n e.c] 320 (0, 0))
 row : ∀ x e, gt L x = some e → Oz base w e.a e.n e.c e.s.ser
 sep : ∀ x e, gt L x = some e → base ≤ e.g ∧ e.g ∉ obk e.a ∧ ∀ b ∈ wbk e, b ≠ p ∧ b ≠ m
 sep2 : ∀ x y e e', gt L x = some e → gt L y = some e' → x ≠ y → ∀ b ∈ wbk e, b ∉ wbk e'
def wbl (p m : Nat) (L : Pwl) : List Nat := p :: m :: L.flatMap fun e => wbk e.2
variable {base : Nat} {w w' : World} {p m : Nat} {L L' : Pwl} {F : Wo} {id : Int} {e : Pw_ShB}
theorem mem_wbl (hn : (keys L).Nodup) {b : Nat} : b ∈ wbl p m L ↔ b = p ∨ b = m ∨ ∃ x e, gt L x = some e ∧ b ∈ wbk e := by
 rw [wbl, List.mem_cons, List.mem_cons, List.mem_flatMap]
 refine or_congr_right (or_congr_right ⟨?_, ?_⟩)
 ·rintro ⟨e, he, hb⟩
  exact ⟨e.1, e.2, gt_of_memw hn he, hb⟩
 ·rintro ⟨x, e, he, hb⟩
  exact ⟨(x, e), gt_mem he, hb⟩
theorem mem_wbk {b : Nat} : b ∈ wbk e ↔ b = e.g ∨ b ∈ obk e.a := by rw [wbk, List.mem_cons]
theorem Sh.lt (h : Sh base w p m L) : p < w.heap.size ∧ m < w.heap.size := by
 obtain ⟨D, h1, _⟩ := h.own
 exact ⟨(Array.getElem?_eq_some_iff.1 h.obj).1, h1.lt⟩
theorem Sh.wlt (h : Sh base w p m L) {x : Int} {e : Pw_ShB} (he : gt L x = some e) {b : Nat} (hb : b ∈ wbk e) : base ≤ b ∧ b < w.heap.size := by
 rcases mem_wbk.1 hb with rfl | hb
 ·exact ⟨(h.sep x e he).1, (Array.getElem?_eq_some_iff.1 (h.win x e he)).1⟩
 ·exact (h.row x e he).lt hb
theorem Sh.blt (h : Sh base w p m L) {b : Nat} (hb : b ∈ wbl p m L) : base ≤ b ∧ b < w.heap.size := by
 rcases (mem_wbl h.nd).1 hb with rfl | rfl | ⟨x, e, he, hb⟩
 ·exact ⟨h.lop, h.lt.1⟩
 ·exact ⟨h.lom, h.lt.2⟩
 ·exact h.wlt he hb
theorem wown_kp {X : List Nat} {b n : Nat} {D : DataW Unit} (h : w.ownsMap Tryz.prog 3 pwR b n D) (hk : Kp X w w') (hX : b ∉ X) : w'.ownsMap Tryz.prog 3 pwR b n D := by
 obtain ⟨es, clock, hb, F, hs, hD⟩ := h
 exact ⟨es, clock, hk.var hb hX, F, hs, hD⟩
theorem Sh.kept (h : Sh base w p m L) {X : List Nat} (hk : Kp X w w') (hX : ∀ b ∈ wbl p m L, b ∉ X) : Sh base w' p m L := by
 obtain ⟨D, h1, h2⟩ := h.own
 have hw : ∀ x e, gt L x = some e → ∀ b ∈ wbk e, b ∉ X := fun x e he b hb => hX b ((mem_wbl h.nd).2 (.inr (.inr ⟨x, e, he, hb⟩)))
 exact ⟨h.lop, h.lom, h.ne, hk.var h.obj (hX p (by simp [wbl])), ⟨D, wown_kp h1 hk (hX m (by simp [wbl])), h2⟩, h.nd, fun x e he => hk.var (h.win x e he) (hw x e he e.g (mem_wbk.2 (.inl rfl))), fun x e he => (h.row x e he).kp hk (fun b hb => hw x e he b (mem_wbk.2 (.inr hb))), h.sep, h.sep2⟩
end
end Go.Proofs.YtpbgbpcdohdecaaGreatDoor
