/- Lemmas that the proof leans on. -/
import Derived.Test.YtkjempffidndeaaGreatDoorB00
import Derived.Test.YtkjempffidndeaaGreatDoorChecked
import Derived.Laws.CopyOwn
import Derived.BigQuiet
import Derived.Lib.SlKeysI
import Derived.Lib.Builder
namespace Go.Proofs.YtkjempffidndeaaGreatDoor
open Go Go.RowKit
set_option maxRecDepth 100000
set_option maxHeartbeats 1000000
section
def ic (l : List Int) : List Value := l.map (Value.int .i64)
theorem ic_length (l : List Int) : (ic l).length = l.length := by simp [ic]
theorem ic_append (a b : List Int) : ic (a ++ b) = ic a ++ ic b := by simp [ic]
theorem ic_one (l : List Int) : ∀ u ∈ ic l, u.oneCell' = true := by
 intro u hu
 obtain ⟨_, _, rfl⟩ := List.mem_map.1 hu
 rfl
theorem ic_inv {l : List Int} {j : Nat} {u : Value} (h : (ic l)[j]? = some u) : ∃ z, l[j]? = some z ∧ u = .int .i64 z := by
 rw [ic, List.getElem?_map] at h
 obtain ⟨z, hz, rfl⟩ := Option.map_eq_some_iff.1 h
 exact ⟨z, hz, rfl⟩
structure Rz (w : World) (a : Option Addr) (n c : Nat) (l : List Int) : Prop where
 len : l.length = n
 le : n ≤ c
 max : c ≤ maxLen
 hnil : a = none → c = 0
 pl : 0 < n → ∃ b off, a = some ⟨b, off, none⟩ ∧ b < w.heap.size ∧ ∀ j z, l[j]? = some z → w.cell? ⟨b, off + j, none⟩ = some (.int .i64 z)
theorem Rz.on {w u : World} {a : Option Addr} {n c : Nat} {l : List Int} (h : Rz w a n c l) (hb : Below w.heap.size w u) : Rz u a n c l :=
 ⟨h.len, h.le, h.max, h.hnil, fun hn => by
  obtain ⟨b, off, e, h1, h2⟩ := h.pl hn
  exact ⟨b, off, e, Nat.lt_of_lt_of_le h1 hb.size, fun j z hz => by rw [hb.cell h1]; exact h2 j z hz⟩⟩
theorem Rz.drewN {w : World} {a : Option Addr} {n c : Nat} {l : List Int} (h : Rz w a n c l) (q : Nat) : Rz (w.drewN q) a n c l := h.on (below_drewN (Below.refl _ _) q)
theorem Rz.nil (w : World) : Rz w none 0 0 [] := ⟨rfl, Nat.le_refl _, Nat.zero_le _, fun _ => rfl, fun h => absurd h (by omega)⟩
theorem Rz.small {w : World} {a : Option Addr} {n c : Nat} {l : List Int} (h : Rz w a n c l) : n ≤ 9223372036854775807 ∧ c ≤ 9223372036854775807 := by
 have h1 := h.le
 have h2 := h.max
 simp only [maxLen] at h2
 omega
theorem Rz.at_ {w : World} {a : Option Addr} {n c : Nat} {l : List Int} (h : Rz w a n c l) {j : Nat} (hj : j < n) : ∃ b off z, a = some ⟨b, off, none⟩ ∧ b < w.heap.size ∧ l[j]? = some z ∧ w.cell? ⟨b, off + j, none⟩ = some (.int .i64 z) := by
 have hl := h.len
 obtain ⟨b, off, e, h1, h2⟩ := h.pl (by omega)
 have hr : l[j]? = some l[j] := List.getElem?_eq_getElem (by omega)
 exact ⟨b, off, _, e, h1, hr, h2 j _ hr⟩
theorem Rz.take {w : World} {a : Option Addr} {n c : Nat} {l : List Int} (h : Rz w a n c l) (k : Nat) (hk : k ≤ n) : Rz w a k c (l.take k) :=
 ⟨by rw [List.length_take, h.len]; omega, Nat.le_trans hk h.le, h.max, h.hnil, fun h0 => by
  obtain ⟨b, off, e, h1, h2⟩ := h.pl (by omega)
  refine ⟨b, off, e, h1, fun j z hz => h2 j z ?_⟩
  rw [List.getElem?_take] at hz
  split at hz
  ·exact hz
  ·cases hz⟩
theorem Rz.drop {w : World} {b off : Nat} {n c : Nat} {l : List Int} (h : Rz w (some ⟨b, off, none⟩) n c l) (k : Nat) (hk : k ≤ n) : Rz w (some ⟨b, off + k, none⟩) (n - k) (c - k) (l.drop k) :=
 ⟨by rw [List.length_drop, h.len], by have := h.le; omega, by have := h.max; omega, (fun h => by cases h), fun h0 => by
  obtain ⟨b', off', e, h1, h2⟩ := h.pl (by omega)
  cases e
  refine ⟨b, off + k, rfl, h1, fun j z hz => ?_⟩
  rw [List.getElem?_drop] at hz
  rw [Nat.add_assoc]
  exact h2 (k + j) z hz⟩
theorem Rz.zero (w : World) (a : Option Addr) : Rz w a 0 0 [] := ⟨rfl, Nat.le_refl _, Nat.zero_le _, fun _ => rfl, fun h => absurd h (by omega)⟩
theorem Rz.src {P : Program} {w : World} {a : Option Addr} {n c : Nat} {l : List Int} (h : Rz w a n c l) {t e : TypeId} (ht : P.underlying t = some (.slice e)) : Src P 1 t (.slice a n c) n (ic l) w := by
 have h3 := h.len
 cases a with
 | none =>
  have h1 := h.hnil rfl
  have h2 := h.le
  obtain rfl : n = 0 := by omega
  obtain rfl : l = [] := List.eq_nil_of_length_eq_zero h3
  exact Src.ofNil w ht c
 | some x =>
  refine Src.ofSlice w ht x n c (ic l) (by rw [ic_length, h3, Nat.mul_one]) (fun j u hu => ?_) (ic_one l)
  obtain ⟨z, hz, rfl⟩ := ic_inv hu
  have hj := (List.getElem?_eq_some_iff.1 hz).1
  obtain ⟨b, off, e1, _, h2⟩ := h.pl (by omega)
  cases e1
  rw [Go.WideShapes.add_plain]
  exact h2 j z hz
theorem Rz.copies {w : World} {a : Option Addr} {n c : Nat} {l : List Int} (h : Rz w a n c l) : 0 < (ic l).length → ∃ ad, a = some ad ∧ ∀ j v, (ic l)[j]? = some v → w.cell? (ad.add j) = some v := fun h0 => by
 rw [ic_length, h.len] at h0
 obtain ⟨b, off, e, _, h2⟩ := h.pl h0
 refine ⟨_, e, fun j v hv => ?_⟩
 obtain ⟨z, hz, rfl⟩ := ic_inv hv
 rw [Go.WideShapes.add_plain]
 exact h2 j z hz
structure OwZ (w u : World) (v : Value) (l : List Int) : Prop where
 own : u.ownsRow w.heap.size 3 1 v l.length (ic l)
 bel : Below w.heap.size w u
theorem OwZ.on {w u u' : World} {v : Value} {l : List Int} (h : OwZ w u v l) (hb : Below u.heap.size u u') : OwZ w u' v l := ⟨ownsRow_below h.own hb, Below.on h.bel hb⟩
theorem OwZ.base {w w0 u : World} {v : Value} {l : List Int} (h : OwZ w u v l) (hb : Below w0.heap.size w0 w) : OwZ w0 u v l := ⟨ownsRow_low h.own hb.size, Below.on hb h.bel⟩
theorem OwZ.nil (w : World) : OwZ w w (.slice none 0 0) [] := ⟨World.ownsRow_nil _ _ _ _, Below.refl _ _⟩
theorem OwZ.grown {w u u' : World} {v v' : Value} {l k : List Int} {m : Nat} (h : OwZ w u v l) (hm : k.length = m) (o2 : u'.ownsRow w.heap.size 3 1 v' (l.length + m) (ic l ++ ic k)) (g : u.grownBy u' v.ownBlock) : OwZ w u' v' (l ++ k) :=
 ⟨by rw [List.length_append, ic_append, hm]; exact o2, h.bel.grown g h.bel.size (fun k hk => (h.own.lt k hk).1)⟩
theorem OwZ.rd {w u : World} {v : Value} {l : List Int} (h : OwZ w u v l) : ∃ a c, v = .slice a l.length c ∧ Rz u a l.length c l ∧ ∀ x, a = some x → w.heap.size ≤ x.block ∧ x.block < u.heap.size := by
 rcases h.own.2 with ⟨rfl, h0⟩ | ⟨g, cap, cur, rfl, hb, hg, hn, hm, _, _⟩
 ·have hl := List.eq_nil_of_length_eq_zero h0
  subst hl
  exact ⟨none, 0, rfl, Rz.nil u, fun x hx => by cases hx⟩
 ·refine ⟨some ⟨g, 0, none⟩, cap, rfl, ⟨rfl, hn, hm, (fun h => by cases h), fun _ => ⟨g, 0, rfl, (h.own.lt g rfl).2, fun j z hz => ?_⟩⟩, fun x hx => ?_⟩
  ·have hj := (List.getElem?_eq_some_iff.1 hz).1
   rw [Nat.zero_add, h.own.cellAt _ (by omega), ic, List.getElem?_map, hz]
   rfl
  ·cases hx
   exact ⟨hb, (Array.getElem?_eq_some_iff.1 hg).1⟩
theorem infoZ : (Tryz.prog.info? 3).map (fun i => (i.zero, i.size, i.bytes)) = some (some (.int .i64 0), 1, 8) := by kernel_rfl
theorem infoZp : ∃ i, Tryz.prog.info? 3 = some i ∧ i.zero = some (.int .i64 0) ∧ i.size = 1 ∧ i.bytes = 8 := by
 obtain ⟨i, h1, h2⟩ := Option.map_eq_some_iff.1 infoZ
 simp only [Prod.mk.injEq] at h2
 exact ⟨i, h1, h2.1, h2.2.1, h2.2.2⟩
theorem sizeZ : (Tryz.prog.info? 3).map (·.size) = some 1 := by
 obtain ⟨i, hi, _, h1, _⟩ := infoZp
 rw [hi]
 exact congrArg some h1
theorem fitsZ {need : Nat} (h : need ≤ 2000000000) : ∀ old, old < need → Builtin.nextslicecap need old * 8 ≤ 281474976710656 := fun old ho => by
 have := nextslicecap_near ho
 omega
theorem makeZ (w : World) (n : Nat) (hn : n ≤ 2000000000) : ∃ w1, (Instr.makeSlice 63 (.int .i64 (n : Int)) (.int .i64 (n : Int))).run Tryz.prog w = .ok (.slice (some ⟨w.heap.size, 0, none⟩) n n) w1 ∧ Below w.heap.size w w1 ∧ w1.heap[w.heap.size]? = some (.cells (ic (List.replicate n 0)).toArray 3 (0, 0)) := by
 obtain ⟨i0, hi, hz0, hz1, hz2⟩ := infoZp
 obtain ⟨w1, hmk, ho1, hg1⟩ := run_make_full (P := Tryz.prog) w w.heap.size 63 3 i0 (.int .i64 0) 1 Tryz.underlying63 hi hz0 hz1 .i64 .i64 n (by rw [hz2]; omega) (by simp only [maxLen]; omega) (Nat.le_refl _)
 refine ⟨w1, hmk, (Below.refl _ _).grown hg1 (Nat.le_refl _) (fun k hk => by cases hk), ?_⟩
 have e : (madeCells (Value.int .i64 0).cells (n * 1)).toList = ic (List.replicate n 0) := by
  rw [Nat.mul_one, ic, List.map_replicate]
  exact toList_madeCells_one _ n
 rw [e] at ho1
 rcases ho1.2 with ⟨h, _⟩ | ⟨g, cap, cur, hv, _, hg, _, _, hs, ht⟩
 ·cases h
 ·cases hv
  rw [hg, ← ht, List.take_of_length_le (by rw [Array.length_toList, hs]; omega)]
theorem make0Z (w : World) (n : Nat) (hn : n ≤ 2000000000) : ∃ w1, (Instr.makeSlice 63 (.int .i64 0) (.int .i64 (n : Int))).run Tryz.prog w = .ok (.slice (some ⟨w.heap.size, 0, none⟩) 0 n) w1 ∧ OwZ w w1 (.slice (some ⟨w.heap.size, 0, none⟩) 0 n) [] := by
 obtain ⟨i0, hi, hz0, hz1, hz2⟩ := infoZp
 have hr := run_make (P := Tryz.prog) w 63 3 i0 (.int .i64 0) Tryz.underlying63 hi hz0 .i64 .i64 0 n (by omega) (by omega) (by rw [hz2]; omega) (by omega)
 simp only [Int.toNat_natCast] at hr
 refine ⟨_, hr, ⟨⟨rfl, .inr ⟨w.heap.size, n, _, rfl, Nat.le_refl _, heap_alloc_new w _, Nat.zero_le _, by simp only [maxLen]; omega, by rw [size_madeCells, hz1], by rfl⟩⟩, (Below.refl _ _).alloc (Nat.le_refl _) _⟩⟩
theorem OwZ.alloc {w u : World} {v : Value} {l : List Int} (h : OwZ w u v l) (o : Obj) : OwZ w (u.alloc o) v l := h.on ((Below.refl _ _).alloc (Nat.le_refl _) _)
theorem srcLit (w : World) (z : Int) : Src Tryz.prog 1 63 (.slice (some ⟨w.heap.size, 0, none⟩) 1 1) 1 (ic [z]) (w.alloc (.cells #[.int .i64 z] 3)) :=
 Src.ofSlice (P := Tryz.prog) _ Tryz.underlying63 ⟨w.heap.size, 0, none⟩ 1 1 (ic [z]) rfl (fun q u hu => by
  match q, hu with
  | 0, hu => cases hu; simp [Addr.add]
  | q + 1, hu => simp [ic] at hu) (ic_one _)
theorem drop_atZ {α : Type} {l : List α} {j : Nat} {x : α} (h : l[j]? = some x) : l.drop j = x :: l.drop (j + 1) := by
 obtain ⟨hj, rfl⟩ := List.getElem?_eq_some_iff.1 h
 exact List.drop_eq_getElem_cons hj
def zeq (l m : List Int) : Bool := decide (l = m)
theorem zeq_cons (x y : Int) (l m : List Int) : zeq (x :: l) (y :: m) = ((x == y) && zeq l m) := by
 unfold zeq
 rw [Bool.eq_iff_iff]
 simp
theorem zeq_len {l m : List Int} (h : l.length ≠ m.length) : zeq l m = false := by
 unfold zeq
 rw [decide_eq_false_iff_not]
 intro e
 exact h (by rw [e])
theorem samez_any (a a' : Option Addr) (n c n' c' : Nat) (l m : List Int) (w : World) (h : Rz w a n c l) (h' : Rz w a' n' c' m) :
  Calls Tryz.prog 54 #[.slice a n c, .slice a' n' c'] w fun e w' => e = .returned (.bool (zeq l m)) ∧ ∃ q, w' = w.drewN q := by
 have hl := h.len
 have hl' := h'.len
 have hn63 := h.small.1
 have hn63' := h'.small.1
 by_cases hnn : n = n'
 ·subst hnn
  have H := hid h
  have H' := hid h'
  have HL := hid hl
  have HL' := hid hl'
  clear h h' hl hl'
  go_enter Tryz.func54, Tryz.ntmps54
  go_wp2
  go_loopw [5] (fun i wr => ∃ j : Nat, i = .int .i64 j ∧ j ≤ n ∧ zeq (l.drop j) (m.drop j) = zeq l m ∧ ∃ q, wr = w.drewN q) (fun i _ => n - (numOf i).toNat)
  case atStart => exact ⟨0, rfl, by omega, rfl, 0, rfl⟩
  case round =>
   obtain ⟨j, rfl, hj, hq, q, rfl⟩ := hrel
   by_cases hgo : j < n
   ·have e1 : decide ((j : Int) < n) = true := decide_eq_true (by omega)
    have e2 : (j : Int) < n := by omega
    obtain ⟨blx, offx, x0, rfl, _, hx, c0⟩ := H.out.at_ hgo
    obtain ⟨bly, offy, y0, rfl, _, hy, d0⟩ := H'.out.at_ hgo
    have HD : Hid (zeq l m = ((x0 == y0) && zeq (l.drop (j + 1)) (m.drop (j + 1)))) := by
     rw [Hid, ← hq, drop_atZ hx, drop_atZ hy, zeq_cons]
    clear hx hy hq
    have hn0 : (x0 != y0) = !(x0 == y0) := rfl
    cases hs : (x0 == y0)
    ·rw [hs] at hn0
     have HE : Hid (zeq l m = false) := by rw [Hid, HD.out, hs]; rfl
     clear HD
     go_wp2
     go_quiet (fail)
     go_wp2
     go_ret
     rw [HE.out, World.drewN_drewN]
     exact ⟨rfl, _, rfl⟩
    ·rw [hs] at hn0
     have HE : Hid (zeq (l.drop (j + 1)) (m.drop (j + 1)) = zeq l m) := by rw [Hid, HD.out, hs]; rfl
     clear HD
     go_wp2
     go_quiet (fail)
     go_wp2
     go_roundw
     case rel => exact ⟨j + 1, by go_num, by omega, HE.out, _, rfl⟩
     case measure => simp [numOf]; omega
   ·have e1 : decide ((j : Int) < n) = false := decide_eq_false (by omega)
    have HE : Hid (zeq l m = true) := by
     rw [Hid, ← hq, List.drop_eq_nil_of_le (by rw [HL.out]; omega), List.drop_eq_nil_of_le (by rw [HL'.out]; omega)]
     rfl
    clear hq
    go_wp2
    go_ret
    rw [HE.out]
    exact ⟨rfl, _, rfl⟩
 ·have HE : Hid (zeq l m = false) := zeq_len (by omega)
  have e1 : ((n : Int) == n') = false := by simp; omega
  clear h h' hl hl'
  go_enter Tryz.func54, Tryz.ntmps54
  go_wp2
  go_ret
  rw [HE.out]
  exact ⟨rfl, 0, rfl⟩
end
section
def zx (k : Int) : List Int → Option Nat
 | [] => none
 | x :: l => if x = k then some 0 else (zx k l).map (· + 1)
def dr (k : Int) (l : List Int) : List Int := l.filter fun z => z != k
def ins (l : List Int) (i : Nat) (z : Int) : List Int := l.take i ++ z :: l.drop i
theorem zx_drop {k : Int} {l : List Int} : ∀ {j : Nat}, (∀ i y, i < j → l[i]? = some y → y ≠ k) → zx k l = (zx k (l.drop j)).map (· + j)
 | 0, _ => by simp
 | j + 1, h => by
  rw [zx_drop (j := j) fun i y hi hy => h i y (by omega) hy]
  cases hd' : l[j]? with
  | none =>
   have : l.length ≤ j := List.getElem?_eq_none_iff.1 hd'
   rw [List.drop_eq_nil_of_le this, List.drop_eq_nil_of_le (by omega)]
   rfl
  | some y =>
   rw [drop_atZ hd', zx, if_neg (h j y (by omega) hd')]
   cases zx k (l.drop (j + 1)) with
   | none => rfl
   | some i => simp; omega
theorem dr_cons (k x : Int) (l : List Int) : dr k (x :: l) = if x = k then dr k l else x :: dr k l := by
 unfold dr
 rw [List.filter_cons]
 by_cases h : x = k <;> simp [h]
theorem dr_append (k : Int) (l m : List Int) : dr k (l ++ m) = dr k l ++ dr k m := List.filter_append ..
theorem dr_length (k : Int) (l : List Int) : (dr k l).length ≤ l.length := List.length_filter_le ..
theorem mem_dr {k y : Int} {l : List Int} : y ∈ dr k l ↔ y ∈ l ∧ y ≠ k := by simp [dr, List.mem_filter]
theorem dr_not {k : Int} {l : List Int} (h : k ∉ l) : dr k l = l := by
 unfold dr
 rw [List.filter_eq_self]
 intro z hz
 simp only [bne_iff_ne, ne_eq]
 intro e
 exact h (e ▸ hz)
theorem zx_none {k : Int} : ∀ {l : List Int}, zx k l = none ↔ k ∉ l
 | [] => by simp [zx]
 | x :: l => by
  rw [zx]
  by_cases hx : x = k
  ·simp [hx]
  ·rw [if_neg hx, Option.map_eq_none_iff, zx_none (l := l), List.mem_cons, not_or]
   exact ⟨fun h => ⟨fun e => hx e.symm, h⟩, fun h => h.2⟩
theorem zx_some {k : Int} : ∀ {l : List Int} {i : Nat}, zx k l = some i → i < l.length ∧ l[i]? = some k ∧ dr k l = l.take i ++ dr k (l.drop (i + 1)) ∧ k ∉ l.take i
 | [], _, h => by cases h
 | x :: l, i, h => by
  rw [zx] at h
  split at h
  ·rename_i hx
   cases h
   refine ⟨by simp, by simp [hx], ?_, by simp⟩
   rw [dr_cons, if_pos hx]
   rfl
  ·rename_i hx
   obtain ⟨m, hm, rfl⟩ := Option.map_eq_some_iff.1 h
   obtain ⟨h1, h2, h3, h4⟩ := zx_some hm
   refine ⟨by simpa using h1, by simpa using h2, ?_, ?_⟩
   ·rw [dr_cons, if_neg hx, h3]
    rfl
   ·rw [List.take_succ_cons, List.mem_cons, not_or]
    exact ⟨fun e => hx e.symm, h4⟩
def bes (l : List Int) (id by_ : Int) (b : Nat) : Option (List Int) :=
 match zx id l with
 | none => none
 | some _ => (zx by_ (dr id l)).map fun i => ins (dr id l) (i + b) id
theorem ins_length (l : List Int) (i : Nat) (z : Int) : (ins l i z).length = l.length + 1 := by
 have e : l.length = (l.take i).length + (l.drop i).length := by rw [← List.length_append, List.take_append_drop]
 unfold ins
 rw [List.length_append, List.length_cons]
 omega
theorem ins_end (l : List Int) (z : Int) : ins l l.length z = l ++ [z] := by simp [ins]
theorem bes_doc (l : List Int) (id by_ : Int) (b : Nat) : bes l id by_ b = if id = by_ ∨ zx id l = none ∨ zx by_ l = none then none else (zx by_ (dr id l)).map fun i => ins (dr id l) (i + b) id := by
 unfold bes
 cases h1 : zx id l with
 | none => rw [if_pos (.inr (.inl rfl))]
 | some k =>
  by_cases h2 : id = by_
  ·rw [if_pos (.inl h2)]
   have : zx by_ (dr id l) = none := zx_none.2 (fun h => (mem_dr.1 h).2 h2.symm)
   show Option.map _ (zx by_ (dr id l)) = none
   rw [this]
   rfl
  ·by_cases h3 : zx by_ l = none
   ·rw [if_pos (.inr (.inr h3))]
    have : zx by_ (dr id l) = none := zx_none.2 (fun h => zx_none.1 h3 (mem_dr.1 h).1)
    show Option.map _ (zx by_ (dr id l)) = none
    rw [this]
    rfl
   ·rw [if_neg (by
     rintro (h | h | h)
     ·exact h2 h
     ·cases h
     ·exact h3 h)]
theorem zx_at {k y : Int} {l : List Int} {j : Nat} (h : l[j]? = some y) : zx k (l.drop j) = if y = k then some 0 else (zx k (l.drop (j + 1))).map (· + 1) := by
 rw [drop_atZ h, zx]
end
section
section
variable {α : Type}
def gt : List (Int × α) → Int → Option α
 | [], _ => none
 | e :: l, k => if e.1 = k then some e.2 else gt l k
def st (l : List (Int × α)) (k : Int) (q : α) : List (Int × α) := l.map fun e => if e.1 = k then (k, q) else e
def rm (l : List (Int × α)) (k : Int) : List (Int × α) := l.filter fun e => decide (e.1 ≠ k)
def keys (l : List (Int × α)) : List Int := l.map (·.1)
def wr (l : List (Int × α)) (k : Int) (q : α) : List (Int × α) := if (gt l k).isSome then st l k q else l ++ [(k, q)]
theorem gt_none {l : List (Int × α)} {k : Int} : gt l k = none ↔ k ∉ keys l := by
 induction l with
 | nil => simp [gt, keys]
 | cons e l ih =>
  simp only [gt, keys, List.map_cons, List.mem_cons, not_or]
  split
  ·rename_i h
   simp [h]
  ·rename_i h
   rw [ih, keys]
   exact ⟨fun q => ⟨fun x => h x.symm, q⟩, fun q => q.2⟩
theorem gt_some {l : List (Int × α)} {k : Int} : (gt l k).isSome = true ↔ k ∈ keys l := by
 cases h : gt l k with
 | none => simp [gt_none.1 h]
 | some q =>
  have : ¬ k ∉ keys l := fun h' => by rw [gt_none.2 h'] at h; cases h
  simpa using this
theorem gt_app (l : List (Int × α)) (k x : Int) (q : α) : gt (l ++ [(k, q)]) x = if (gt l x).isSome then gt l x else if k = x then some q else none := by
 induction l with
 | nil => simp [gt]
 | cons e l ih =>
  simp only [List.cons_append, gt]
  split
  ·simp
  ·exact ih
theorem gt_st (l : List (Int × α)) (k x : Int) (q : α) : gt (st l k q) x = if x = k then (gt l k).map (fun _ => q) else gt l x := by
 induction l with
 | nil => simp [gt, st]
 | cons e l ih =>
  simp only [st, List.map_cons, gt] at ih ⊢
  by_cases he : e.1 = k
  ·rw [if_pos he, if_pos he]
   by_cases hx : x = k
   ·rw [if_pos hx.symm, if_pos hx]
    simp
   ·rw [if_neg (fun h => hx h.symm), if_neg hx, ih, if_neg hx, if_neg (fun h => hx (h.symm.trans he))]
  ·rw [if_neg he, if_neg he]
   by_cases hx : x = k
   ·subst hx
    rw [if_neg he, ih, if_pos rfl, if_pos rfl]
   ·rw [if_neg hx, ih, if_neg hx]
theorem gt_wr (l : List (Int × α)) (k x : Int) (q : α) : gt (wr l k q) x = if x = k then some q else gt l x := by
 unfold wr
 split
 ·rename_i h
  rw [gt_st]
  by_cases hx : x = k
  ·rw [if_pos hx, if_pos hx]
   obtain ⟨q', hq'⟩ := Option.isSome_iff_exists.1 h
   rw [hq']
   rfl
  ·rw [if_neg hx, if_neg hx]
 ·rename_i h
  rw [gt_app]
  by_cases hx : x = k
  ·subst hx
   rw [if_neg h, if_pos rfl, if_pos rfl]
  ·rw [if_neg hx]
   cases hg : gt l x with
   | none => simp [show k ≠ x from fun h => hx h.symm]
   | some q => simp
theorem gt_rm (l : List (Int × α)) (k x : Int) : gt (rm l k) x = if x = k then none else gt l x := by
 induction l with
 | nil => simp [gt, rm]
 | cons e l ih =>
  simp only [rm, List.filter_cons, gt] at ih ⊢
  by_cases he : e.1 = k
  ·rw [if_neg (by simpa using he), ih]
   by_cases hx : x = k
   ·rw [if_pos hx, if_pos hx]
   ·rw [if_neg hx, if_neg hx, if_neg (fun h => hx (h.symm.trans he))]
  ·rw [if_pos (by simpa using he)]
   simp only [gt]
   by_cases hx : x = k
   ·rw [if_pos hx, if_neg (fun h => he (h.trans hx)), ih, if_pos hx]
   ·rw [if_neg hx, ih, if_neg hx]
theorem keys_st (l : List (Int × α)) (k : Int) (q : α) : keys (st l k q) = keys l := by
 simp only [keys, st, List.map_map]
 refine List.map_congr_left fun e _ => ?_
 simp only [Function.comp]
 split
 ·rename_i h
  exact h.symm
 ·rfl
theorem keys_wr {l : List (Int × α)} (h : (keys l).Nodup) (k : Int) (q : α) : (keys (wr l k q)).Nodup := by
 unfold wr
 split
 ·rw [keys_st]
  exact h
 ·rename_i hn
  have hn' : k ∉ keys l := fun hm => hn (gt_some.2 hm)
  rw [keys, List.map_append]
  refine List.nodup_append.2 ⟨h, by simp, fun a ha b hb e => hn' ?_⟩
  simp only [List.map_cons, List.map_nil, List.mem_cons, List.not_mem_nil, or_false] at hb
  rw [← hb, ← e]
  exact ha
theorem keys_rm {l : List (Int × α)} (h : (keys l).Nodup) (k : Int) : (keys (rm l k)).Nodup :=
 List.Nodup.sublist (List.Sublist.map _ List.filter_sublist) h
theorem rm_length (l : List (Int × α)) (k : Int) : (rm l k).length ≤ l.length := List.length_filter_le _ _
theorem mem_rm {l : List (Int × α)} {k : Int} {e : Int × α} (h : e ∈ rm l k) : e ∈ l := (List.mem_filter.1 h).1
theorem gt_mem {l : List (Int × α)} {k : Int} {q : α} (h : gt l k = some q) : (k, q) ∈ l := by
 induction l with
 | nil => cases h
 | cons e l ih =>
  rw [gt] at h
  split at h
  ·rename_i he
   cases h
   rw [← he]
   exact List.mem_cons_self
  ·exact List.mem_cons_of_mem _ (ih h)
theorem key_ne {x k : Int} (h : x ≠ k) : Lit.int .i64 x ≠ Lit.int .i64 k := by simpa using h
theorem isKey (k : Int) : WideAt.IsKeyLit (.int .i64 k) := trivial
def Rp (dat : α → DataW Unit) (z : α) (D : DataW Unit) (l : List (Int × α)) : Prop := ∀ k : Int, Maps.has D (.int .i64 k) = (gt l k).isSome ∧ D.atKey (.int .i64 k) (dat z) = dat ((gt l k).getD z)
variable {dat : α → DataW Unit} {z : α} {D : DataW Unit} {l : List (Int × α)}
theorem Rp.put (h : Rp dat z D l) (hm : Maps.IsMap D) (k : Int) (q : α) : Rp dat z (D.put (.int .i64 k) (dat q)) (wr l k q) := fun x => by
 rw [gt_wr]
 by_cases hx : x = k
 ·subst hx
  rw [if_pos rfl, Maps.has_put_same hm (isKey _), Maps.atKey_put_same hm (isKey _)]
  exact ⟨rfl, rfl⟩
 ·rw [if_neg hx, Maps.has_put_other (key_ne hx), Maps.atKey_put_other (key_ne hx)]
  exact h x
theorem Rp.del (h : Rp dat z D l) (k : Int) : Rp dat z (D.del (.int .i64 k)) (rm l k) := fun x => by
 rw [gt_rm]
 by_cases hx : x = k
 ·subst hx
  rw [if_pos rfl, Maps.has_del_same, Maps.atKey_del_same]
  exact ⟨rfl, rfl⟩
 ·rw [if_neg hx, Maps.has_del_other (key_ne hx), Maps.atKey_del_other (key_ne hx)]
  exact h x
theorem rp_empty (dat : α → DataW Unit) (z : α) : Rp dat z (.map []) [] := fun _ => ⟨rfl, rfl⟩
variable {P : Program} {kt : TypeId} {w : World} {b n : Nat} {R : Value → Option (DataW Unit × List MemPlace)}
theorem pkeys_perm (h : w.ownsMap P kt R b n D) (hk : P.underlying kt = some (.int .i64)) (hR : Rp dat z D l) (hn : (keys l).Nodup) : (keys l).Perm (intKeys D) := by
 have hC : CollectedI D (fun _ => false) (keys l) := ⟨hn, fun x => by rw [← gt_some, (hR x).1]; simp⟩
 exact hC.perm h (Maps.int_keyed hk) hk (fun _ => rfl)
theorem psize (h : w.ownsMap P kt R b n D) (hk : P.underlying kt = some (.int .i64)) (hR : Rp dat z D l) (hn : (keys l).Nodup) : Maps.size D = l.length := by
 have := (pkeys_perm h hk hR hn).length_eq
 rw [keys, List.length_map] at this
 rw [this]
 obtain ⟨es, rfl, _⟩ := h.entries (Maps.int_keyed hk)
 simp [intKeys, Maps.size]
theorem ptight (h : w.ownsMap P kt R b n D) (hk : P.underlying kt = some (.int .i64)) (hR : Rp dat z D l) (hn : (keys l).Nodup) : w.ownsMap P kt R b l.length D := by
 have e1 := psize h hk hR hn
 obtain ⟨es, clock, hb, F, hs, rfl⟩ := h
 refine ⟨es, clock, hb, F, ?_, rfl⟩
 have e2 : Maps.size _ ≤ l.length := Nat.le_of_eq e1
 simpa [Maps.size, length_sorted] using e2
end
end
section
def un1 (l : List (List Int)) : List Int := l.map hd
def sg (l : List Int) : List (List Int) := l.map fun z => [z]
theorem un1_sg (l : List Int) : un1 (sg l) = l := by
 rw [un1, sg, List.map_map]
 conv => rhs; rw [← List.map_id l]
 rfl
theorem sg_un1 {l : List (List Int)} (h : ∀ y ∈ l, y.length = 1) : sg (un1 l) = l := by
 rw [un1, sg, List.map_map]
 conv => rhs; rw [← List.map_id l]
 refine List.map_congr_left fun y hy => ?_
 match y, h y hy with
 | [z], _ => rfl
theorem sg_size (l : List Int) : ∀ y ∈ sg l, y.length = 1 := fun y hy => by
 obtain ⟨z, _, rfl⟩ := List.mem_map.1 hy
 rfl
theorem sg_length (l : List Int) : (sg l).length = l.length := by simp [sg]
theorem un1_length (l : List (List Int)) : (un1 l).length = l.length := by simp [un1]
structure Sf where
 par : Int
 syn : Bool
 pe : Sq
 ca : Sq
 no : Sq
abbrev Fo := List (Int × Sf)
def sqA : Sq := ⟨false, 0, [], [], false, true, [], false, [[0]], []⟩
def sf0 : Sf := ⟨0, false, sq0, sq0, sqA⟩
def lat (s : Sf) : List (List Int) := bif s.pe.ord then s.pe.od else bif s.ca.ord then s.ca.od else s.no.od
def ordS (l : List (List Int)) (s : Sf) : Sf := { s with pe := { s.pe with ord := true, od := l } }
def plcS (c : List Int) (s : Sf) : Sf := { s with pe := { s.pe with pl := put1 s.pe.pl c } }
def outL (id : Int) (l : List (List Int)) : List (List Int) := l.filter fun y => hd y != id
def outQ (id : Int) (q : Sq) : Sq := { q with od := outL id q.od, pl := outL id q.pl }
def outS (id : Int) (s : Sf) : Sf := { s with pe := outQ id s.pe, ca := outQ id s.ca, no := outQ id s.no }
theorem outL_sg (id : Int) (l : List Int) : outL id (sg l) = sg (dr id l) := by
 rw [outL, sg, List.filter_map, dr]
 rfl
def upd (F : Fo) (id : Int) (f : Sf → Sf) : Fo := match gt F id with
 | none => F
 | some s => st F id (f s)
theorem gt_upd (F : Fo) (id x : Int) (f : Sf → Sf) : gt (upd F id f) x = if x = id then (gt F id).map f else gt F x := by
 unfold upd
 cases h : gt F id with
 | none =>
  by_cases hx : x = id
  ·rw [if_pos hx, hx, h]; rfl
  ·rw [if_neg hx]
 | some s =>
  dsimp only
  rw [gt_st, h]
  rfl
theorem keys_upd (F : Fo) (id : Int) (f : Sf → Sf) : keys (upd F id f) = keys F := by
 unfold upd
 split
 ·rfl
 ·exact keys_st ..
theorem upd_length (F : Fo) (id : Int) (f : Sf → Sf) : (upd F id f).length = F.length := by
 have h := congrArg List.length (keys_upd F id f)
 simpa only [keys, List.length_map] using h
inductive Anc (F : Fo) : Int → Int → Prop
 | self {x : Int} {s : Sf} : gt F x = some s → Anc F x x
 | up {x id : Int} {s : Sf} : gt F x = some s → Anc F s.par id → Anc F x id
theorem anc_iff {F : Fo} {x id : Int} : Anc F x id ↔ ∃ s, gt F x = some s ∧ (x = id ∨ Anc F s.par id) := by
 constructor
 ·intro h
  cases h with
  | self h => exact ⟨_, h, .inl rfl⟩
  | up h h' => exact ⟨_, h, .inr h'⟩
 ·rintro ⟨s, h, rfl | h'⟩
  ·exact .self h
  ·exact .up h h'
inductive Syd (F : Fo) : Int → Prop
 | own {x : Int} {s : Sf} : gt F x = some s → s.par ≠ 0 → s.syn = true → Syd F x
 | up {x : Int} {s : Sf} : gt F x = some s → s.par ≠ 0 → Syd F s.par → Syd F x
theorem syd_iff {F : Fo} {x : Int} : Syd F x ↔ ∃ s, gt F x = some s ∧ s.par ≠ 0 ∧ (s.syn = true ∨ Syd F s.par) := by
 constructor
 ·intro h
  cases h with
  | own h h1 h2 => exact ⟨_, h, h1, .inl h2⟩
  | up h h1 h2 => exact ⟨_, h, h1, .inr h2⟩
 ·rintro ⟨s, h, h1, h2 | h2⟩
  ·exact .own h h1 h2
  ·exact .up h h1 h2
open Classical in
noncomputable def anc (F : Fo) (x id : Int) : Bool := decide (Anc F x id)
open Classical in
noncomputable def sy (F : Fo) (x : Int) : Bool := decide (Syd F x)
open Classical in
theorem anc_true {F : Fo} {x id : Int} : anc F x id = true ↔ Anc F x id := by
 unfold anc
 exact decide_eq_true_iff
open Classical in
theorem sy_true {F : Fo} {x : Int} : sy F x = true ↔ Syd F x := by
 unfold sy
 exact decide_eq_true_iff
theorem anc_none {F : Fo} {x : Int} (h : gt F x = none) (id : Int) : anc F x id = false := by
 rw [Bool.eq_false_iff, ne_eq, anc_true, anc_iff, h]
 simp
theorem anc_some {F : Fo} {x : Int} {s : Sf} (h : gt F x = some s) (id : Int) : anc F x id = (x == id || anc F s.par id) := by
 rw [Bool.eq_iff_iff, anc_true, anc_iff, h]
 simp [anc_true]
theorem sy_none {F : Fo} {x : Int} (h : gt F x = none) : sy F x = false := by
 rw [Bool.eq_false_iff, ne_eq, sy_true, syd_iff, h]
 simp
theorem sy_some {F : Fo} {x : Int} {s : Sf} (h : gt F x = some s) : sy F x = (s.par != 0 && (s.syn || sy F s.par)) := by
 rw [Bool.eq_iff_iff, sy_true, syd_iff, h]
 simp [sy_true]
def addE (F : Fo) (id : Int) : Nat := if id < 1 then 1 else if (gt F id).isSome then 5 else if 40 ≤ F.length then 4 else 0
def addF (F : Fo) (id : Int) : Fo := if addE F id = 0 then F ++ [(id, sf0)] else F
def unsE (F : Fo) (id : Int) : Nat := match gt F id with
 | none => 5
 | some s => if s.par = 0 then 10 else 0
def unsF (F : Fo) (id : Int) : Fo := match gt F id with
 | none => F
 | some s => if s.par = 0 then F else upd (upd F s.par (outS id)) id fun s => { s with par := 0 }
def drpE (F : Fo) (id : Int) : Nat := match gt F id with
 | none => 5
 | some _ => 0
def drpF (F : Fo) (id : Int) : Fo := match gt F id with
 | none => F
 | some _ => (rm (unsF F id) id).map fun e => (e.1, if e.2.par = id then { e.2 with par := 0 } else e.2)
noncomputable def subE (F : Fo) (id p : Int) : Nat := match gt F id, gt F p with
 | some s, some _ => if s.par ≠ 0 then 10 else if anc F p id then 11 else 0
 | _, _ => 5
noncomputable def subF (F : Fo) (id p : Int) : Fo := if subE F id p = 0 then upd (upd F id fun s => { s with par := p, syn := true }) p (fun q => plcS [id, 0, 0] (ordS (sg (dr id (un1 (lat q)) ++ [id])) q)) else F
def attS (b : Int) (s : Sf) : Sf := { s with pe := { s.pe with at_ := true, buf := b } }
def dmgS (r : List Int) (s : Sf) : Sf := { s with pe := { s.pe with dm := s.pe.dm ++ [r] } }
def frmS (c : Int) (s : Sf) : Sf := { s with pe := { s.pe with fr := s.pe.fr ++ [[c]] } }
def inpS (a : Bool) (l : List (List Int)) (s : Sf) : Sf := { s with pe := { s.pe with inp := true, all := a, rg := bif a then [] else l } }
def hasE (F : Fo) (id : Int) : Nat := match gt F id with
 | none => 5
 | some _ => 0
def edg (v : Int) : Int := min (max v (-16777216)) 16777216
def posF (F : Fo) (id x y : Int) : Fo := match gt F id with
 | none => F
 | some s => if s.par = 0 then F else upd F s.par (plcS [id, edg x, edg y])
def putL (F : Fo) (id by_ : Int) (b : Nat) : Option (Int × List Int) := match gt F id with
 | none => none
 | some s => if s.par = 0 then none else match gt F s.par with
  | none => none
  | some q => if by_ = s.par then (bes (un1 (lat q)) id 0 b).map fun m => (s.par, m) else if by_ = 0 then none else (bes (un1 (lat q)) id by_ b).map fun m => (s.par, m)
def putE (F : Fo) (id by_ : Int) (b : Nat) : Nat := match unsE F id with
 | 0 => match putL F id by_ b with
  | none => 11
  | some _ => 0
 | k => k
def putF (F : Fo) (id by_ : Int) (b : Nat) : Fo := match putL F id by_ b with
 | none => F
 | some (p, m) => upd F p (ordS (sg m))
def synF (F : Fo) (id : Int) (on : Bool) : Fo := match gt F id with
 | none => F
 | some s => if s.par = 0 then F else st F id { s with syn := on }
def aplS (s : Sf) : Sf := { s with no := apl s.no s.ca, ca := sq0 }
noncomputable def kds : Nat → Fo → Int → List Int → Fo × List Int
 | 0, F, _, l => (F, l)
 | n + 1, F, x, l => match gt F x with
  | none => (F, l)
  | some s => (un1 s.no.od).foldl (fun r k => match gt r.1 k with
   | none => r
   | some c => if k = 0 ∨ sy r.1 k = false then r else if non c.ca then kds n r.1 k r.2 else kds n (upd r.1 k aplS) k (r.2 ++ [k])) (F, l)
noncomputable def comF (n : Nat) (F : Fo) (id : Int) : Fo × List Int := match gt F id with
 | none => (F, [])
 | some _ => if sy F id then (upd F id fun s => { s with ca := mrg s.ca s.pe, pe := sq0 }, []) else kds n (upd F id fun s => { s with no := apl s.no (mrg s.ca s.pe), ca := sq0, pe := sq0 }) id [id]
def takS (s : Sf) : Sf := { s with no := { s.no with fr := [] } }
def takL (F : Fo) (id : Int) : List (List Int) := match gt F id with
 | none => []
 | some s => s.no.fr
def plx (k : Int) (l : List (List Int)) : Int × Int := match fnd k l with
 | some [_, x, y] => (x, y)
 | _ => (0, 0)
def wlk (F : Fo) : Nat → Int → Int → Int → List (List Int)
 | 0, _, _, _ => []
 | n + 1, id, x, y => match gt F id with
  | none => []
  | some s => if s.no.buf = 0 then [] else (un1 s.no.od).flatMap fun k => if k = 0 then [[id, x, y]] else wlk F n k (x + (plx k s.no.pl).1) (y + (plx k s.no.pl).2)
end
end Go.Proofs.YtkjempffidndeaaGreatDoor
