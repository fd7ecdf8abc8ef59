/- Lemmas that the proof leans on. -/
import Derived.Test.YtpbgbpcdohdecaaGreatDoorB11
namespace Go.Proofs.YtpbgbpcdohdecaaGreatDoor
open Go Go.RowKit
set_option maxRecDepth 100000
set_option maxHeartbeats 1000000
section
theorem El.all {u : World} {b o : Nat} {r : Rc} (h : El u b o r) : u.cell? ⟨b, o, none⟩ = some (.int .i64 r.x) ∧ u.cell? ⟨b, o + 1, none⟩ = some (.int .i64 r.y) ∧ u.cell? ⟨b, o + 2, none⟩ = some (.int .i64 r.w) ∧ u.cell? ⟨b, o + 3, none⟩ = some (.int .i64 r.h) := ⟨h.c0, h.c1, h.c2, h.c3⟩
theorem El.drewN {u : World} {b o : Nat} {r : Rc} (h : El u b o r) (q : Nat) : El (u.drewN q) b o r := ⟨h.lt, h.c0, h.c1, h.c2, h.c3⟩
structure RdC (w : World) (a : Option Addr) (n c : Nat) (l : List Rc) : Prop where
 len : l.length = n
 le : n ≤ c
 max : c ≤ maxLen
 hnil : a = none → c = 0
 pl : 0 < n → ∃ b off, a = some ⟨b, off, none⟩ ∧ b < w.heap.size ∧ ∀ j r, l[j]? = some r → El w b (off + j * 4) r
 ok : ∀ r ∈ l, r.Ok
theorem RdC.on {w u : World} {a : Option Addr} {n c : Nat} {l : List Rc} (h : RdC w a n c l) (hb : Below w.heap.size w u) : RdC u a n c l :=
 ⟨h.len, h.le, h.max, h.hnil, fun hn => by
  obtain ⟨b, off, e, h1, h2⟩ := h.pl hn
  exact ⟨b, off, e, Nat.lt_of_lt_of_le h1 hb.size, fun j r hr => (h2 j r hr).on hb⟩, h.ok⟩
theorem RdC.drewN {w : World} {a : Option Addr} {n c : Nat} {l : List Rc} (h : RdC w a n c l) (q : Nat) : RdC (w.drewN q) a n c l :=
 ⟨h.len, h.le, h.max, h.hnil, fun hn => by
  obtain ⟨b, off, e, h1, h2⟩ := h.pl hn
  exact ⟨b, off, e, h1, fun j r hr => (h2 j r hr).drewN q⟩, h.ok⟩
theorem RdC.nil (w : World) : RdC w none 0 0 [] := ⟨rfl, Nat.le_refl _, Nat.zero_le _, fun _ => rfl, fun h => absurd h (by omega), by simp⟩
theorem RdC.small {w : World} {a : Option Addr} {n c : Nat} {l : List Rc} (h : RdC w a n c l) : n ≤ 9223372036854775807 ∧ c ≤ 9223372036854775807 := by
 have h1 := h.le
 have h2 := h.max
 simp only [maxLen] at h2
 omega
theorem RdC.el {w : World} {a : Option Addr} {n c : Nat} {l : List Rc} (h : RdC w a n c l) {j : Nat} (hj : j < n) : ∃ b off r, a = some ⟨b, off, none⟩ ∧ b < w.heap.size ∧ l[j]? = some r ∧ r.Ok ∧ El w b (off + j * 4) r := by
 have hl := h.len
 obtain ⟨b, off, e, h1, h2⟩ := h.pl (by omega)
 have hr : l[j]? = some l[j] := List.getElem?_eq_getElem (by omega)
 exact ⟨b, off, _, e, h1, hr, h.ok _ (List.mem_of_getElem? hr), h2 j _ hr⟩
def rcc (r : Rc) : List Value := [.int .i64 r.x, .int .i64 r.y, .int .i64 r.w, .int .i64 r.h]
def rccs (l : List Rc) : List Value := l.flatMap rcc
theorem rccs_length (l : List Rc) : (rccs l).length = l.length * 4 := by
 induction l with
 | nil => rfl
 | cons x l ih =>
  rw [rccs, List.flatMap_cons, List.length_append, List.length_cons]
  show 4 + (rccs l).length = _
  omega
theorem rccs_append (a b : List Rc) : rccs (a ++ b) = rccs a ++ rccs b := by simp [rccs]
theorem rccs_cons (r : Rc) (l : List Rc) : rccs (r :: l) = .int .i64 r.x :: .int .i64 r.y :: .int .i64 r.w :: .int .i64 r.h :: rccs l := rfl
theorem rccs_one (l : List Rc) : ∀ u ∈ rccs l, u.oneCell' = true := by
 intro u hu
 obtain ⟨x, _, hx⟩ := List.mem_flatMap.1 hu
 simp only [rcc, List.mem_cons, List.not_mem_nil, or_false] at hx
 rcases hx with rfl | rfl | rfl | rfl <;> rfl
theorem rccs_at (l : List Rc) (j : Nat) (x : Rc) (h : l[j]? = some x) : (rccs l)[j * 4]? = some (.int .i64 x.x) ∧ (rccs l)[j * 4 + 1]? = some (.int .i64 x.y) ∧ (rccs l)[j * 4 + 2]? = some (.int .i64 x.w) ∧ (rccs l)[j * 4 + 3]? = some (.int .i64 x.h) := by
 induction l generalizing j with
 | nil => simp at h
 | cons y l ih =>
  cases j with
  | zero =>
   simp only [List.getElem?_cons_zero, Option.some.injEq] at h
   subst h
   rw [rccs_cons]
   exact ⟨rfl, rfl, rfl, rfl⟩
  | succ j =>
   obtain ⟨h1, h2, h3, h4⟩ := ih j (by simpa using h)
   rw [rccs_cons, show (j + 1) * 4 = j * 4 + 1 + 1 + 1 + 1 by omega]
   simp only [List.getElem?_cons_succ]
   exact ⟨h1, h2, h3, h4⟩
theorem el_of_owns {w : World} {base e n g c : Nat} {l : List Rc} (h : w.ownsRow base e 4 (.slice (some ⟨g, 0, none⟩) n c) n (rccs l)) : g < w.heap.size ∧ base ≤ g ∧ ∀ j r, l[j]? = some r → El w g (0 + j * 4) r := by
 have hg := h.lt g rfl
 have hl : l.length = n := by have := h.1; rw [rccs_length] at this; omega
 refine ⟨hg.2, hg.1, fun j r hr => ?_⟩
 obtain ⟨g1, g2, g3, g4⟩ := rccs_at l j r hr
 have hj : j < n := by
  rcases Nat.lt_or_ge j n with h' | h'
  ·exact h'
  ·rw [List.getElem?_eq_none (by omega)] at hr; cases hr
 rw [Nat.zero_add]
 exact ⟨hg.2, by rw [h.cellAt _ (by omega)]; exact g1, by rw [h.cellAt _ (by omega)]; exact g2, by rw [h.cellAt _ (by omega)]; exact g3, by rw [h.cellAt _ (by omega)]; exact g4⟩
theorem rdc_of_owns {w : World} {base e n : Nat} {v : Value} {l : List Rc} (h : w.ownsRow base e 4 v n (rccs l)) (ok : ∀ r ∈ l, r.Ok) : ∃ a c, v = .slice a n c ∧ RdC w a n c l := by
 have hl : l.length = n := by have := h.1; rw [rccs_length] at this; omega
 rcases h.2 with ⟨rfl, rfl⟩ | ⟨g, cap, cur, rfl, hb, hg, hn, hm, _, _⟩
 ·obtain rfl : l = [] := List.eq_nil_of_length_eq_zero hl
  exact ⟨none, 0, rfl, RdC.nil w⟩
 ·obtain ⟨h1, h2, h3⟩ := el_of_owns h
  exact ⟨some ⟨g, 0, none⟩, cap, rfl, hl, hn, hm, (fun h => by cases h), fun _ => ⟨g, 0, rfl, h1, h3⟩, ok⟩
theorem infoC : (Tryz.prog.info? 97).map (fun i => (i.zero, i.size, i.bytes)) = some (some (.agg #[.int .i64 0, .int .i64 0, .int .i64 0, .int .i64 0]), 4, 32) := by kernel_rfl
theorem infoI_RgnH : (Tryz.prog.info? 3).map (fun i => (i.zero, i.size, i.bytes)) = some (some (.int .i64 0), 1, 8) := by kernel_rfl
theorem info3 {P : Program} {e : TypeId} {z : Value} {n m : Nat} (h : (P.info? e).map (fun i => (i.zero, i.size, i.bytes)) = some (some z, n, m)) : ∃ i, P.info? e = some i ∧ i.zero = some z ∧ i.size = n ∧ i.bytes = m := by
 obtain ⟨i, hi, hz⟩ := Option.map_eq_some_iff.1 h
 simp only [Prod.mk.injEq] at hz
 exact ⟨i, hi, hz.1, hz.2.1, hz.2.2⟩
theorem fits32 {need : Nat} (h : need ≤ 1000000000) : ∀ old, old < need → Builtin.nextslicecap need old * 32 ≤ 281474976710656 := fun old ho => by
 have := nextslicecap_near ho
 omega
theorem fitsI {need : Nat} (h : need ≤ 1000000000) : ∀ old, old < need → Builtin.nextslicecap need old * 8 ≤ 281474976710656 := fun old ho => by
 have := nextslicecap_near ho
 omega
def Ret (w : World) (l : List Rc) (e : Ending) (w' : World) : Prop := ∃ a c, e = .returned (.slice a l.length c) ∧ RdC w' a l.length c l ∧ Below w.heap.size w w'
end
section
theorem drop_at {α : Type} {l : List α} {j : Nat} {x : α} (h : l[j]? = some x) : l.drop j = x :: l.drop (j + 1) := by
 have hj : j < l.length := (List.getElem?_eq_some_iff.1 h).1
 rw [List.drop_eq_getElem_cons hj]
 rw [List.getElem?_eq_getElem hj] at h
 rw [Option.some.inj h]
theorem follows_any (a r : Rc) (hx : -9223372036854775808 ≤ a.x + a.w ∧ a.x + a.w ≤ 9223372036854775807) (hy : -9223372036854775808 ≤ a.y + a.h ∧ a.y + a.h ≤ 9223372036854775807) (w : World) :
  Calls Tryz.prog 260 #[.agg #[.int .i64 a.x, .int .i64 a.y, .int .i64 a.w, .int .i64 a.h], .agg #[.int .i64 r.x, .int .i64 r.y, .int .i64 r.w, .int .i64 r.h]] w fun e w' => e = .returned (.bool (flw a r)) ∧ Below w.heap.size w w' := by
 have HB : Hid (Below w.heap.size w ((w.alloc (ob a)).alloc (ob r))) := (box2 a r (Below.refl _ _)).2.2
 unfold ob at HB
 unfold flw
 cases h1 : (r.y == a.y)
 ·rw [if_neg (by simpa using h1)]
  go_enter Tryz.func260, Tryz.ntmps260
  go_wp2
  go_ret
  exact ⟨rfl, HB.out⟩
 ·rw [if_pos (by simpa using h1)]
  cases h2 : (r.h == a.h)
  ·rw [decide_eq_false (by simpa using h2)]
   go_enter Tryz.func260, Tryz.ntmps260
   go_wp2
   go_ret
   exact ⟨rfl, HB.out⟩
  ·rw [decide_eq_true (by simpa using h2)]
   go_enter Tryz.func260, Tryz.ntmps260
   go_wp2
   go_ret
   exact ⟨rfl, HB.out⟩
def ssp (a b : Rc) : Bool := decide (a.x = b.x) && decide (a.w = b.w)
theorem samespan_any (a r : Rc) (w : World) :
  Calls Tryz.prog 294 #[.agg #[.int .i64 a.x, .int .i64 a.y, .int .i64 a.w, .int .i64 a.h], .agg #[.int .i64 r.x, .int .i64 r.y, .int .i64 r.w, .int .i64 r.h]] w fun e w' => e = .returned (.bool (ssp a r)) ∧ Below w.heap.size w w' := by
 have HB : Hid (Below w.heap.size w ((w.alloc (ob a)).alloc (ob r))) := (box2 a r (Below.refl _ _)).2.2
 unfold ob at HB
 unfold ssp
 cases h1 : (a.x == r.x)
 ·rw [decide_eq_false (by simpa using h1)]
  go_enter Tryz.func294, Tryz.ntmps294
  go_wp2
  go_ret
  exact ⟨rfl, HB.out⟩
 ·rw [decide_eq_true (by simpa using h1)]
  go_enter Tryz.func294, Tryz.ntmps294
  go_wp2
  go_ret
  exact ⟨rfl, HB.out⟩
def bl (y : Int) (t : List Rc) : Nat := (t.takeWhile fun a => decide (a.y = y)).length
theorem bl_cons (y : Int) (r : Rc) (t : List Rc) : bl y (r :: t) = if r.y = y then bl y t + 1 else 0 := by
 unfold bl
 rw [List.takeWhile_cons]
 by_cases h : r.y = y
 ·rw [if_pos (by simp [h]), if_pos h, List.length_cons]
 ·rw [if_neg (by simp [h]), if_neg h]; rfl
theorem bl_nil (y : Int) : bl y [] = 0 := rfl
theorem band_len (r : Rc) (t : List Rc) : (band r t).length = bl r.y t + 1 := rfl
theorem band_take (r : Rc) (t : List Rc) : (r :: t).take (bl r.y t + 1) = band r t := by
 rw [← band_len, ← band_behind, List.take_left]
theorem band_drop (r : Rc) (t : List Rc) : (r :: t).drop (bl r.y t + 1) = behind r t := by
 rw [← band_len, ← band_behind, List.drop_left]
theorem first_any_RgnI (a : Option Addr) (n c : Nat) (r : Rc) (t : List Rc) (w : World) (hr : RdC w a n c (r :: t)) :
  Calls Tryz.prog 291 #[.slice a n c] w fun e w' => e = .returned (.slice a (bl r.y t + 1) c) ∧ ∃ q, w' = w.drewN q := by
 have hn := hr.len
 obtain ⟨hn63, hc63⟩ := hr.small
 have hle := hr.le
 obtain ⟨b, off, rfl, hb, hel⟩ := hr.pl (by rw [← hn]; simp)
 have HE := hid hel
 have h0 := hel 0 r rfl
 have HL : Hid (bl r.y t + 1 ≤ n) := by
  rw [Hid, ← hn, List.length_cons]
  have := (List.takeWhile_sublist (p := fun a : Rc => decide (a.y = r.y)) (l := t)).length_le
  unfold bl
  omega
 obtain ⟨_, _, y0, _, _⟩ := h0
 simp only [Nat.zero_mul, Nat.add_zero] at y0
 clear hr hel
 go_enter Tryz.func291, Tryz.ntmps291
 go_wp2
 go_loopw [3] (fun i wr => ∃ k : Nat, i = .int .i64 k ∧ k + bl r.y ((r :: t).drop k) = bl r.y t + 1 ∧ 1 ≤ k ∧ k ≤ n ∧ ∃ q, wr = w.drewN q) (fun i _ => n - (numOf i).toNat)
 case atStart => exact ⟨1, rfl, by rw [List.drop_one, List.tail_cons]; omega, by omega, by rw [← hn]; simp, 0, rfl⟩
 case round =>
  obtain ⟨k, rfl, hk, hk1, hkn, q, rfl⟩ := hrel
  by_cases hgo : k < n
  ·have e1 : decide ((k : Int) < n) = true := decide_eq_true (by omega)
   have hkl : k < (r :: t).length := by omega
   obtain ⟨s, hs⟩ : ∃ s, (r :: t)[k]? = some s := ⟨_, List.getElem?_eq_getElem hkl⟩
   have HD : Hid ((r :: t).drop k = s :: (r :: t).drop (k + 1)) := by rw [Hid, List.drop_eq_getElem_cons hkl]; congr 1; rw [List.getElem?_eq_getElem hkl] at hs; exact Option.some.inj hs
   obtain ⟨_, _, y1, _, _⟩ := HE.out k s hs
   have HK := hid hk
   clear hk hs hkl hn
   cases hq : (s.y == r.y)
   ·have HK2 : Hid (bl r.y t + 1 = k) := by
     have := HK.out
     rw [HD.out, bl_cons, if_neg (by simpa using hq)] at this
     exact this.symm
    go_wp2
    go_quiet (fail)
    go_wp2
    go_ret
    rw [HK2.out]
    exact ⟨rfl, _, rfl⟩
   ·have HK2 : Hid (k + 1 + bl r.y ((r :: t).drop (k + 1)) = bl r.y t + 1) := by
     have := HK.out
     rw [HD.out, bl_cons, if_pos (by simpa using hq)] at this
     rw [Hid]
     omega
    go_wp2
    go_quiet (fail)
    go_wp2
    go_roundw
    case rel => exact ⟨k + 1, by go_num, HK2.out, by omega, by omega, _, rfl⟩
    case measure => simp [numOf]; omega
  ·have e1 : decide ((k : Int) < n) = false := decide_eq_false (by omega)
   obtain rfl : k = n := by omega
   have HK2 : Hid (bl r.y t + 1 = k) := by rw [List.drop_eq_nil_of_le (by omega), bl_nil] at hk; exact hk.symm
   clear hk hn
   go_wp2
   go_quiet (fail)
   go_wp2
   go_ret
   rw [HK2.out]
   exact ⟨rfl, _, rfl⟩
end
section
def lenOf : Value → Nat
 | .slice _ n _ => n
 | _ => 0
theorem RdC.take {w : World} {a : Option Addr} {n c : Nat} {l : List Rc} (h : RdC w a n c l) {k : Nat} (hk : k ≤ n) : RdC w a k c (l.take k) := by
 have hl := h.len
 have hle := h.le
 refine ⟨by rw [List.length_take]; omega, by omega, h.max, h.hnil, fun hk0 => ?_, fun r hr => h.ok r (List.mem_of_mem_take hr)⟩
 obtain ⟨b, off, e, h1, h2⟩ := h.pl (by omega)
 refine ⟨b, off, e, h1, fun j r hr => h2 j r ?_⟩
 rcases Nat.lt_or_ge j k with hj | hj
 ·rwa [List.getElem?_take_of_lt hj] at hr
 ·rw [List.getElem?_eq_none (by rw [List.length_take]; omega)] at hr; cases hr
theorem RdC.drop {w : World} {b off n c : Nat} {l : List Rc} (h : RdC w (some ⟨b, off, none⟩) n c l) {k : Nat} (hk : k ≤ n) : RdC w (some ⟨b, off + k * 4, none⟩) (n - k) (c - k) (l.drop k) := by
 have hl := h.len
 have hle := h.le
 have hm := h.max
 refine ⟨by rw [List.length_drop]; omega, by omega, by omega, (fun h => by cases h), fun hk0 => ?_, fun r hr => h.ok r (List.mem_of_mem_drop hr)⟩
 obtain ⟨b', off', e, h1, h2⟩ := h.pl (by omega)
 cases e
 refine ⟨b, off + k * 4, rfl, h1, fun j r hr => ?_⟩
 rw [List.getElem?_drop] at hr
 have := h2 _ _ hr
 rwa [show off + k * 4 + j * 4 = off + (k + j) * 4 by omega]
theorem RdC.none_of {w : World} (a : Option Addr) (c : Nat) (hc : c ≤ maxLen) (hn : a = none → c = 0) : RdC w a 0 c [] := ⟨rfl, Nat.zero_le _, hc, hn, fun h => absurd h (by omega), by simp⟩
theorem touch_any (a a' : Option Addr) (n c n' c' : Nat) (l : List Rc) (r : Rc) (t : List Rc) (w : World) (h : RdC w a n c l) (h' : RdC w a' n' c' (r :: t)) (hk : ∀ x ∈ l, Ck x) :
  Calls Tryz.prog 292 #[.slice a n c, .slice a' n' c'] w fun e w' => e = .returned (.bool (tch l r.y)) ∧ ∃ q, w' = w.drewN q := by
 have hl := h.len
 have hl' := h'.len
 have hn63 := h.small.1
 have hn63' := h'.small.1
 cases l with
 | nil =>
  obtain rfl : n = 0 := hl.symm
  go_enter Tryz.func292, Tryz.ntmps292
  go_wp2
  go_quiet (fail)
  go_wp2
  go_ret
  exact ⟨rfl, _, rfl⟩
 | cons x l =>
  have hn0 : 0 < n := by rw [← hl]; simp
  have hn1 : 0 < n' := by rw [← hl']; simp
  obtain ⟨b, off, rfl, hb, hel⟩ := h.pl hn0
  obtain ⟨b', off', rfl, hb', hel'⟩ := h'.pl hn1
  obtain ⟨_, _, y0, _, h0⟩ := hel 0 x rfl
  obtain ⟨_, _, y1, _, _⟩ := hel' 0 r rfl
  simp only [Nat.zero_mul, Nat.add_zero] at y0 h0 y1
  obtain ⟨k1, k2, k3, k4, k5, k6⟩ := hk x (by simp)
  have e1 : decide (0 < (n : Int)) = true := decide_eq_true (by omega)
  have e2 : IntKind.i64.wrap (x.y + x.h) = x.y + x.h := by rw [IntKind.wrap_i64]; omega
  clear hel hel' h h' hl hl' hk
  go_enter Tryz.func292, Tryz.ntmps292
  go_wp2
  go_quiet (fail)
  go_wp2
  go_ret
  exact ⟨ret_bool_RectA (by simp [tch]; rfl), _, rfl⟩
theorem eqs_cons (a b : Rc) (l m : List Rc) : eqs (a :: l) (b :: m) = (ssp a b && eqs l m) := by
 rw [Bool.eq_iff_iff]
 simp only [eqs, ssp, Bool.and_eq_true, decide_eq_true_eq, List.length_cons, List.zip_cons_cons, List.all_cons]
 constructor
 ·rintro ⟨h1, h2, h3⟩; exact ⟨h2, by omega, h3⟩
 ·rintro ⟨h2, h1, h3⟩; exact ⟨by omega, h2, h3⟩
theorem eqs_len {l m : List Rc} (h : l.length ≠ m.length) : eqs l m = false := by rw [eqs, decide_eq_false h]; rfl
theorem equalfunc_any (a a' : Option Addr) (n c n' c' : Nat) (l m : List Rc) (w : World) (h : RdC w a n c l) (h' : RdC w a' n' c' m) :
  Calls Tryz.prog 293 #[.slice a n c, .slice a' n' c', .func (.func 294) #[] #[]] w fun e w' => e = .returned (.bool (eqs l m)) ∧ Below w.heap.size w w' := by
 have hl := h.len
 have hl' := h'.len
 have hn63 := h.small.1
 have hn63' := h'.small.1
 by_cases hnn : n = n'
 ·subst hnn
  have H := hid h
  have H' := hid h'
  clear h h'
  go_enter Tryz.func293, Tryz.ntmps293
  go_wp2
  go_loopw [17] (fun i wr => ∃ j : Nat, i = .int .i64 j ∧ j ≤ n ∧ eqs (l.drop j) (m.drop j) = eqs l m ∧ RowKit.Below w.heap.size w wr) (fun i _ => n - (numOf i).toNat)
  case atStart => exact ⟨0, rfl, by omega, rfl, Below.refl _ _⟩
  case round =>
   obtain ⟨j, rfl, hj, hq, hb⟩ := hrel
   by_cases hgo : j < n
   ·have e1 : decide ((j : Int) < n) = true := decide_eq_true (by omega)
    obtain ⟨b, off, x, rfl, _, hx, _, he⟩ := (H.out.on hb).el hgo
    obtain ⟨b', off', y, rfl, _, hy, _, he'⟩ := (H'.out.on hb).el hgo
    have HD : Hid (eqs l m = (ssp x y && eqs (l.drop (j + 1)) (m.drop (j + 1)))) := by
     rw [Hid, ← hq, drop_at hx, drop_at hy, eqs_cons]
    obtain ⟨_, c0, c1, c2, c3⟩ := he
    obtain ⟨_, d0, d1, d2, d3⟩ := he'
    have HB := hid hb
    clear hx hy hq hb hl hl'
    have CS := hid (fun w => samespan_any x y w)
    cases hs : ssp x y
    ·rw [hs] at CS
     have HE : Hid (eqs l m = false) := by rw [Hid, HD.out, hs]; rfl
     go_wp2_with fail
     refine (CS.out _).mono ?_
     rintro e w2 ⟨rfl, hb2⟩
     obtain ⟨_, _, hb3⟩ := box2 x y hb2
     have HB3 := hid (Below.on HB.out hb3)
     clear hb2 hb3
     go_wp2
     go_ret
     rw [HE.out]
     exact ⟨rfl, HB3.out⟩
    ·rw [hs] at CS
     have HE : Hid (eqs (l.drop (j + 1)) (m.drop (j + 1)) = eqs l m) := by rw [Hid, HD.out, hs]; rfl
     go_wp2_with fail
     refine (CS.out _).mono ?_
     rintro e w2 ⟨rfl, hb2⟩
     obtain ⟨_, _, hb3⟩ := box2 x y hb2
     have HB3 := hid (Below.on HB.out hb3)
     clear hb2 hb3
     go_wp2
     go_roundw
     case rel => exact ⟨j + 1, by go_num, by omega, HE.out, HB3.out⟩
     case measure => simp [numOf]; omega
   ·have e1 : decide ((j : Int) < n) = false := decide_eq_false (by omega)
    have HE : Hid (eqs l m = true) := by
     rw [Hid, ← hq, List.drop_eq_nil_of_le (by omega), List.drop_eq_nil_of_le (by omega)]
     rfl
    have HB := hid hb
    clear hb hq
    go_wp2
    go_ret
    rw [HE.out]
    exact ⟨rfl, HB.out⟩
 ·have HE : Hid (eqs l m = false) := eqs_len (by omega)
  have e1 : ¬ ((n : Int) = n') := by omega
  clear h h' hl hl'
  go_enter Tryz.func293, Tryz.ntmps293
  go_wp2
  go_ret
  rw [HE.out]
  exact ⟨rfl, Below.refl _ _⟩
theorem parted_any (a : Option Addr) (n c : Nat) (l : List Rc) (w : World) (h : RdC w a n c l) (hk : ∀ x ∈ l, Ck x) :
  Calls Tryz.prog 261 #[.slice a n c] w fun e w' => e = .returned (.bool (prt [] l)) ∧ Below w.heap.size w w' := by
 have H := hid h
 have HK := hid hk
 clear h hk
 go_enter Tryz.func261, Tryz.ntmps261
 go_wp2
 go_loopw [0, 3] (fun v u wr => ∃ (a1 : Option Addr) (n1 c1 : Nat) (l1 : List Rc) (a2 : Option Addr) (n2 c2 : Nat) (l2 : List Rc), v = .slice a1 n1 c1 ∧ u = .slice a2 n2 c2 ∧ RdC wr a1 n1 c1 l1 ∧ RdC wr a2 n2 c2 l2 ∧ (∀ x ∈ l1, Ck x) ∧ (∀ x ∈ l2, Ck x) ∧ prt l2 l1 = prt [] l ∧ RowKit.Below w.heap.size w wr) (fun v _ _ => lenOf v)
 case atStart => exact ⟨a, n, c, l, none, 0, 0, [], rfl, rfl, H.out, RdC.nil w, HK.out, by simp, rfl, Below.refl _ _⟩
 case round =>
  obtain ⟨a1, n1, c1, l1, a2, n2, c2, l2, rfl, rfl, h1, h2, k1, k2, hp, hb⟩ := hrel
  have hn1 := h1.len
  have hs1 := h1.small
  cases l1 with
  | nil =>
   obtain rfl : n1 = 0 := hn1.symm
   have HE : Hid (prt [] l = true) := by rw [Hid, ← hp, prt]
   have HB := hid hb
   clear hb hp h1 h2 hn1
   go_wp2
   go_ret
   rw [HE.out]
   exact ⟨rfl, HB.out⟩
  | cons r t =>
   have hn0 : 0 < n1 := by rw [← hn1]; simp
   have e1 : decide (0 < (n1 : Int)) = true := decide_eq_true (by omega)
   have C1 := hid (fun u (hu : RdC u a1 n1 c1 (r :: t)) => first_any_RgnI a1 n1 c1 r t u hu)
   have hbl : bl r.y t + 1 ≤ n1 := by
    rw [← hn1, List.length_cons]
    have := (List.takeWhile_sublist (p := fun a : Rc => decide (a.y = r.y)) (l := t)).length_le
    unfold bl
    omega
   have HP := hid hp
   have H1 := hid h1
   have H2 := hid h2
   have HB := hid hb
   have K1 := hid k1
   have K2 := hid k2
   clear hp h1 h2 hb k1 k2 hn1
   go_wp2_with fail
   refine (C1.out _ H1.out).mono ?_
   rintro e w2 ⟨rfl, q, rfl⟩
   clear C1
   have H1 := hid (H1.out.drewN q)
   have H2 := hid (H2.out.drewN q)
   have HB := hid (below_drewN_LibK HB.out q)
   have HT := hid (H1.out.take hbl)
   rw [band_take] at HT
   obtain ⟨b, off, rfl, _, _⟩ := H1.out.pl hn0
   have HD := hid (H1.out.drop hbl)
   rw [band_drop] at HD
   have C2 := hid (fun u (h : RdC u _ _ _ _) (h' : RdC u _ _ _ _) => touch_any a2 (some ⟨b, off, none⟩) n2 c2 (bl r.y t + 1) c1 l2 r (t.takeWhile fun a => decide (a.y = r.y)) u h h' K2.out)
   have KB : Hid (∀ x ∈ band r t, Ck x) := fun x hx => K1.out x (by rw [← band_behind]; simp [hx])
   have KD : Hid (∀ x ∈ behind r t, Ck x) := fun x hx => K1.out x (by rw [← band_behind]; simp [hx])
   generalize (wr.drewN q) = w2 at H2 HT HD HB ⊢
   have hle1 := HT.out.le
   have HPT : Hid (prt l2 (r :: t) = if tch l2 r.y = true ∧ eqs l2 (band r t) = true then false else prt (band r t) (behind r t)) := by rw [Hid, prt]
   have HC : Hid (∀ (ad : Option Addr) (u : World), (ad = some ⟨b, off + (bl r.y t + 1) * 4, none⟩ ∨ (ad = some ⟨b, off, none⟩ ∧ c1 = bl r.y t + 1)) → RowKit.Below w2.heap.size w2 u → RdC u ad (n1 - (bl r.y t + 1)) (c1 - (bl r.y t + 1)) (behind r t) ∧ RdC u (some ⟨b, off, none⟩) (bl r.y t + 1) c1 (band r t)) := by
    intro ad u had hu
    refine ⟨?_, HT.out.on hu⟩
    rcases had with rfl | ⟨rfl, hcc⟩
    ·exact HD.out.on hu
    ·have h1 := HD.out.len
     have h2 := HD.out.le
     have e0 : n1 - (bl r.y t + 1) = 0 := by omega
     rw [e0] at h1 ⊢
     rw [List.eq_nil_of_length_eq_zero h1, hcc, Nat.sub_self]
     exact RdC.none_of _ _ (Nat.zero_le _) (fun h => by cases h)
   have hcl : c1 ≤ 9223372036854775807 := hs1.2
   cases hq1 : tch l2 r.y
   ·rw [hq1] at C2
    have HN : Hid (prt (band r t) (behind r t) = prt [] l) := by rw [Hid, ← HP.out, HPT.out, if_neg (by rw [hq1]; simp)]
    go_wp2_with fail
    refine (C2.out _ H2.out HT.out).mono ?_
    rintro e w3 ⟨rfl, q3, rfl⟩
    clear C2 H2 HT HD HP HPT
    have HB3 := hid (below_drewN_LibK HB.out q3)
    have HC3 := hid (fun ad h => HC.out ad (w2.drewN q3) h (below_drewN_LibK (Below.refl _ _) q3))
    clear HB HC
    generalize w2.drewN q3 = w4 at HB3 HC3 ⊢
    by_cases hcc : c1 = bl r.y t + 1
    ·subst hcc
     have HF := hid (HC3.out _ (.inr ⟨rfl, rfl⟩))
     rw [Nat.sub_self] at HF
     clear HC3
     go_wp2
     go_quiet (fail)
     go_wp2
     go_roundw
     case rel => exact ⟨_, _, _, _, _, _, _, _, rfl, rfl, HF.out.1.drewN _, HF.out.2.drewN _, KD.out, KB.out, HN.out, below_drewN_LibK HB3.out _⟩
     case measure => simp [lenOf]; omega
    ·have HF := hid (HC3.out _ (.inl rfl))
     clear HC3
     go_wp2
     go_quiet (fail)
     go_wp2
     go_roundw
     case rel => exact ⟨_, _, _, _, _, _, _, _, rfl, rfl, HF.out.1.drewN _, HF.out.2.drewN _, KD.out, KB.out, HN.out, below_drewN_LibK HB3.out _⟩
     case measure => simp [lenOf]; omega
   ·rw [hq1] at C2
    have CE := hid (fun u (h : RdC u _ _ _ _) (h' : RdC u _ _ _ _) => equalfunc_any a2 (some ⟨b, off, none⟩) n2 c2 (bl r.y t + 1) c1 l2 (band r t) u h h')
    go_wp2_with fail
    refine (C2.out _ H2.out HT.out).mono ?_
    rintro e w3 ⟨rfl, q3, rfl⟩
    clear C2
    cases hq2 : eqs l2 (band r t)
    ·rw [hq2] at CE
     have HN : Hid (prt (band r t) (behind r t) = prt [] l) := by rw [Hid, ← HP.out, HPT.out, if_neg (by rw [hq2]; simp)]
     go_wp2_with fail
     refine (CE.out _ (H2.out.drewN q3) (HT.out.drewN q3)).mono ?_
     rintro e w4 ⟨rfl, hb4⟩
     clear CE H2 HT HD HP HPT
     have hb4' : Below w2.heap.size w2 w4 := (below_drewN_LibK (Below.refl _ _) q3).trans hb4
     have HB3 := hid (Below.on HB.out hb4')
     have HC3 := hid (fun ad h => HC.out ad w4 h hb4')
     clear HB HC hb4 hb4'
     by_cases hcc : c1 = bl r.y t + 1
     ·subst hcc
      have HF := hid (HC3.out _ (.inr ⟨rfl, rfl⟩))
      rw [Nat.sub_self] at HF
      clear HC3
      go_wp2
      go_quiet (fail)
      go_wp2
      go_roundw
      case rel => exact ⟨_, _, _, _, _, _, _, _, rfl, rfl, HF.out.1.drewN _, HF.out.2.drewN _, KD.out, KB.out, HN.out, below_drewN_LibK HB3.out _⟩
      case measure => simp [lenOf]; omega
     ·have HF := hid (HC3.out _ (.inl rfl))
      clear HC3
      go_wp2
      go_quiet (fail)
      go_wp2
      go_roundw
      case rel => exact ⟨_, _, _, _, _, _, _, _, rfl, rfl, HF.out.1.drewN _, HF.out.2.drewN _, KD.out, KB.out, HN.out, below_drewN_LibK HB3.out _⟩
      case measure => simp [lenOf]; omega
    ·rw [hq2] at CE
     have HN : Hid (prt [] l = false) := by rw [Hid, ← HP.out, HPT.out, if_pos ⟨hq1, hq2⟩]
     go_wp2_with fail
     refine (CE.out _ (H2.out.drewN q3) (HT.out.drewN q3)).mono ?_
     rintro e w4 ⟨rfl, hb4⟩
     have HB3 := hid (Below.on (below_drewN_LibK HB.out q3) hb4)
     clear CE H2 HT HD HP HPT HB HC hb4
     go_wp2
     go_ret
     rw [HN.out]
     exact ⟨rfl, HB3.out⟩
end
end Go.Proofs.YtpbgbpcdohdecaaGreatDoor
