/- Lemmas that the proof leans on. -/
import Derived.Test.YtdgknofpkafppaaGreatDoorB26
namespace Go.Proofs.YtdgknofpkafppaaGreatDoor
open Go Go.RowKit
open List renaming getElem_toArray → lqA, getElem_cons_zero → lqB, getElem_cons_succ → lqC, setIfInBounds_toArray → lqD, set_cons_zero → lqE, set_cons_succ → lqF
set_option maxRecDepth 100000
set_option maxHeartbeats 2000000
section
def I64 (z : Int) : Prop := -9223372036854775808 ≤ z ∧ z ≤ 9223372036854775807
theorem ints_of_owns {w : World} {base e n : Nat} {v : Value} {zs : List Int} (h : w.ownsRow base e 1 v n (zs.map encZ)) : ∃ a c, v = .slice a n c ∧ zs.length = n ∧ n ≤ c ∧ c ≤ maxLen ∧ (a = none → c = 0) ∧ ∀ x, a = some x → ∃ g, x = ⟨g, 0, none⟩ ∧ base ≤ g ∧ g < w.heap.size ∧ ∀ j z, zs[j]? = some z → w.cell? ⟨g, j, none⟩ = some (.int .i64 z) := by
 have hl : zs.length = n := by have := h.1; rw [List.length_map] at this; omega
 rcases h.2 with ⟨rfl, rfl⟩ | ⟨g, cap, cur, rfl, hb, hg, hn, hm, _, _⟩
 ·exact ⟨none, 0, rfl, hl, Nat.le_refl _, Nat.zero_le _, fun _ => rfl, fun x hx => by cases hx⟩
 ·refine ⟨some ⟨g, 0, none⟩, cap, rfl, hl, hn, hm, (fun h => by cases h), fun x hx => ?_⟩
  cases hx
  refine ⟨g, rfl, hb, (Array.getElem?_eq_some_iff.1 hg).1, fun j z hz => ?_⟩
  have := h.cells rfl j (.int .i64 z) (by rw [List.getElem?_map, hz]; rfl)
  rw [Go.WideShapes.add_plain, Nat.zero_add] at this
  exact this
theorem wf64 {z : Int} (h : I64 z) : (Lit.int .i64 z).wf = true := by unfold I64 at h; simp [Lit.wf, IntKind.min, IntKind.max, IntKind.signed, IntKind.bits]; omega
theorem of_wf64 {z : Int} (h : (Lit.int .i64 z).wf = true) : I64 z := by unfold I64; simpa [Lit.wf, IntKind.min, IntKind.max, IntKind.signed, IntKind.bits] using h
theorem rdi_of_owns {w : World} {base e n : Nat} {v : Value} {zs : List Int} (h : w.ownsRow base e 1 v n (zs.map encZ)) (hz : ∀ z ∈ zs, I64 z) : ∃ a c, v = .slice a n c ∧ RdI .i64 w a n c zs ∧ ∀ x, a = some x → ∃ g, x = ⟨g, 0, none⟩ ∧ base ≤ g ∧ g < w.heap.size := by
 obtain ⟨a, c, rfl, hl, hle, hm, hn, hc⟩ := ints_of_owns h
 refine ⟨a, c, rfl, ⟨hl, hle, hm, hn, fun x hx j hj => ?_, fun z h => wf64 (hz z h)⟩, fun x hx => ?_⟩
 ·obtain ⟨g, rfl, _, _, h3⟩ := hc x hx
  rw [Go.WideShapes.add_plain, Nat.zero_add, h3 j _ (List.getElem?_eq_getElem (by omega)), List.getD, List.getElem?_eq_getElem (by omega)]
  rfl
 ·obtain ⟨g, h1, h2, h3, _⟩ := hc x hx
  exact ⟨g, h1, h2, h3⟩
theorem info_parts {P : Program} {e : TypeId} {z : Value} {n m : Nat} (h : (P.info? e).map (fun i => (i.zero, i.size, i.bytes)) = some (some z, n, m)) : ∃ i, P.info? e = some i ∧ i.zero = some z ∧ i.size = n ∧ i.bytes = m := by
 obtain ⟨i, hi, hz⟩ := Option.map_eq_some_iff.1 h
 simp only [Prod.mk.injEq] at hz
 exact ⟨i, hi, hz.1, hz.2.1, hz.2.2⟩
theorem infoInt : (Tryz.prog.info? 3).map (fun i => (i.zero, i.size, i.bytes)) = some (some (.int .i64 0), 1, 8) := by kernel_rfl
theorem fits8 {need : Nat} (h : need ≤ 2000000000) : ∀ old, old < need → Builtin.nextslicecap need old * 8 ≤ 281474976710656 := fun old ho => by
 have := nextslicecap_near ho
 omega
variable {P : Program} {w : World}
def insAt (s : List Int) (x : Int) (k : Nat) : List Int := s.take k ++ x :: s.drop k
theorem insAt_length (s : List Int) (x : Int) (k : Nat) : (insAt s x k).length = s.length + 1 := by
 simp only [insAt, List.length_append, List.length_cons, List.length_take, List.length_drop]
 omega
theorem insAt_end (s : List Int) (x : Int) : insAt s x s.length = s ++ [x] := by simp [insAt]
theorem insAt_perm (s : List Int) (x : Int) (k : Nat) : (insAt s x k).Perm (s ++ [x]) := by
 rw [insAt]
 refine List.perm_middle.trans ?_
 rw [List.take_append_drop]
 exact (List.perm_append_comm (l₁ := [x]) (l₂ := s))
theorem insAt_at (s : List Int) (x : Int) (k : Nat) (hk : k ≤ s.length) : (insAt s x k)[k]? = some x := by
 rw [insAt, List.getElem?_append_right (by rw [List.length_take]; omega), List.length_take, show k - min k s.length = 0 by omega]
 rfl
theorem insAt_ahead (s : List Int) (x : Int) (k j : Nat) (hj : j < k) (hk : k ≤ s.length) : (insAt s x k)[j]? = s[j]? := by
 rw [insAt, List.getElem?_append_left (by rw [List.length_take]; omega), List.getElem?_take_of_lt hj]
theorem insAt_swap (s : List Int) (x y : Int) (k : Nat) (h : s[k]? = some y) : ((insAt s x (k + 1)).set (k + 1) y).set k x = insAt s x k := by
 have hk : k < s.length := (List.getElem?_eq_some_iff.1 h).1
 have h1 : s.take (k + 1) = s.take k ++ [y] := by rw [List.take_add_one, h]; rfl
 have h2 : s.drop k = y :: s.drop (k + 1) := by rw [List.drop_eq_getElem_cons hk]; congr 1; rw [List.getElem?_eq_getElem hk] at h; exact Option.some.inj h
 have hl : (s.take k).length = k := by rw [List.length_take]; omega
 rw [insAt, insAt, h1, h2, List.append_assoc, List.set_append_right _ _ (by rw [hl]; omega), hl, show k + 1 - k = 1 by omega]
 rw [List.set_append_right _ _ (by rw [hl]; omega), hl, Nat.sub_self]
 rfl
theorem insAt_sorted {s : List Int} {x : Int} {k : Nat} (hs : s.Pairwise (· ≤ ·)) (ha : ∀ y ∈ s.drop k, x < y) (hb : k = 0 ∨ ∃ y, s[k - 1]? = some y ∧ y ≤ x) (hk : k ≤ s.length) : (insAt s x k).Pairwise (· ≤ ·) := by
 have hs' := hs
 rw [← List.take_append_drop k s, List.pairwise_append] at hs'
 obtain ⟨p1, p2, p3⟩ := hs'
 rw [insAt, List.pairwise_append]
 refine ⟨p1, List.pairwise_cons.2 ⟨fun y hy => Int.le_of_lt (ha y hy), p2⟩, fun y hy z hz => ?_⟩
 have hyx : y ≤ x := by
  rcases hb with rfl | ⟨m, hm, hmx⟩
  ·simp at hy
  ·obtain ⟨i, hi⟩ := List.mem_iff_getElem?.1 hy
   have hik : i < k := by
    have := (List.getElem?_eq_some_iff.1 hi).1
    rw [List.length_take] at this
    omega
   rw [List.getElem?_take_of_lt hik] at hi
   rcases Nat.lt_or_ge i (k - 1) with h | h
   ·have e1 := (List.getElem?_eq_some_iff.1 hi)
    have e2 := (List.getElem?_eq_some_iff.1 hm)
    obtain ⟨l1, rfl⟩ := e1
    obtain ⟨l2, rfl⟩ := e2
    exact Int.le_trans (List.pairwise_iff_getElem.1 hs i (k - 1) l1 l2 h) hmx
   ·obtain rfl : i = k - 1 := by omega
    rw [hm] at hi
    cases hi
    exact hmx
 rcases List.mem_cons.1 hz with rfl | hz
 ·exact hyx
 ·exact p3 y hy z hz
theorem own_some {U : World} {b e n c g : Nat} {xs : List Value} (h : U.ownsRow b e 1 (.slice (some ⟨g, 0, none⟩) n c) n xs) (i : Nat) (hi : i < n) : ∃ v, U.cell? ⟨g, i, none⟩ = some v := by
 have hl := h.1
 exact ⟨_, (h.cellAt i (by omega)).trans (List.getElem?_eq_getElem (by omega))⟩
theorem row_of {w : World} {base e m n : Nat} {v : Value} {xs : List Value} (h : w.ownsRow base e m v n xs) : ∃ a c, v = .slice a n c ∧ n ≤ c ∧ c ≤ maxLen ∧ (a = none → n = 0 ∧ c = 0) ∧ ∀ x, a = some x → ∃ g, x = ⟨g, 0, none⟩ ∧ base ≤ g ∧ g < w.heap.size ∧ ∀ j, j < n * m → w.cell? ⟨g, j, none⟩ = xs[j]? := by
 rcases h.2 with ⟨rfl, rfl⟩ | ⟨g, cap, cur, rfl, hb, hg, hn, hm, _, _⟩
 ·exact ⟨none, 0, rfl, Nat.le_refl _, Nat.zero_le _, (fun _ => ⟨rfl, rfl⟩), fun x hx => by cases hx⟩
 ·refine ⟨some ⟨g, 0, none⟩, cap, rfl, hn, hm, (fun h => by cases h), fun x hx => ?_⟩
  cases hx
  exact ⟨g, rfl, hb, (Array.getElem?_eq_some_iff.1 hg).1, fun j hj => h.cellAt j hj⟩
theorem set_same {l : List Int} {z : Int} (h : z < 1 ∨ z ∈ setOf l) : setOf (l ++ [z]) = setOf l := by
 refine setOf_eq (setOf_ris l) (fun x => ?_)
 rw [mem_setOf, List.mem_append]
 constructor
 ·rintro ⟨h1, h2⟩
  exact ⟨h1, .inl h2⟩
 ·rintro ⟨h1, h2 | h2⟩
  ·exact ⟨h1, h2⟩
  ·simp only [List.mem_cons, List.not_mem_nil, or_false] at h2
   subst h2
   rcases h with h | h
   ·omega
   ·exact (mem_setOf l x).1 h
theorem set_ins {l : List Int} {z : Int} (h1 : ¬ z < 1) (h2 : z ∉ setOf l) (k : Nat) (ha : ∀ y ∈ (setOf l).drop k, z < y) (hb : k = 0 ∨ ∃ y, (setOf l)[k - 1]? = some y ∧ y ≤ z) (hk : k ≤ (setOf l).length) : insAt (setOf l) z k = setOf (l ++ [z]) := by
 have hp := insAt_perm (setOf l) z k
 have hn : (insAt (setOf l) z k).Nodup := hp.nodup_iff.2 (List.nodup_append.2 ⟨ris_nodup (setOf_ris l), by simp, fun x hx b hb e => by
  simp only [List.mem_cons, List.not_mem_nil, or_false] at hb
  subst hb e
  exact h2 hx⟩)
 refine (setOf_eq (List.Pairwise.imp₂ (fun a b h1 h2 => by omega) (insAt_sorted (ris_le (setOf_ris l)) ha hb hk) hn) (fun x => ?_)).symm
 rw [hp.mem_iff, List.mem_append, List.mem_append, mem_setOf]
 simp only [List.mem_cons, List.not_mem_nil, or_false]
 constructor
 ·rintro (h | rfl)
  ·exact ⟨h.1, .inl h.2⟩
  ·exact ⟨by omega, .inr rfl⟩
 ·rintro ⟨h, h' | h'⟩
  ·exact .inl ⟨h, h'⟩
  ·exact .inr h'
theorem ushas_any (w : World) (s : Option Addr) (n c : Nat) (zs : List Int) (hr : RdI .i64 w s n c zs) (id : Int) :
  Calls Tryz.prog 121 #[.slice s n c, .int .i64 id] w fun e w' => e = .returned (.bool (decide (id ∈ zs))) ∧ w' = w := by
 have hle := hr.le
 have hmx := hr.max
 simp only [maxLen] at hmx
 have HR := hid hr
 have HL := hid hr.len
 clear hr
 go_enter Tryz.func121, Tryz.ntmps121
 go_wp2
 go_loopw [5] (fun i wx => ∃ j : Nat, i = .int .i64 j ∧ j ≤ n ∧ id ∉ zs.take j ∧ wx = w) (fun i _ => n - (numOf i).toNat)
 case atStart => exact ⟨0, rfl, by omega, by simp, rfl⟩
 case round =>
  obtain ⟨j, rfl, hj, hno, rfl⟩ := hrel
  by_cases hgo : j < n
  ·have e1 : decide ((j : Int) < n) = true := decide_eq_true (by omega)
   obtain ⟨b, off, rfl, hb, hc⟩ := HR.out.plain (by omega)
   have hjz : j < zs.length := by rw [HL.out]; exact hgo
   have cz := hc j hjz
   obtain ⟨z, hz⟩ : ∃ z, z = zs.getD j 0 := ⟨_, rfl⟩
   have hzm : zs[j]? = some z := by rw [hz, List.getD, List.getElem?_eq_getElem hjz]; rfl
   rw [← hz] at cz
   have hjn : (j : Int) < n := by omega
   have hs : zs.take (j + 1) = zs.take j ++ [z] := by rw [List.take_add_one, hzm]; rfl
   have HM := hid (List.mem_of_getElem? hzm)
   have HS := hid hs
   have HNO := hid hno
   clear hc hz hzm hs hno hjz
   by_cases he : z = id
   ·have e2 : (z == id) = true := by simpa using he
    have HD : Hid (decide (id ∈ zs) = true) := decide_eq_true (by rw [← he]; exact HM.out)
    clear he
    go_wp2
    go_ret
    rw [HD.out]
    exact ⟨rfl, rfl⟩
   ·have e2 : (z == id) = false := by simpa using he
    have HE := hid he
    clear he
    go_wp2
    go_roundw
    case rel => exact ⟨j + 1, by go_num, by omega, by rw [HS.out, List.mem_append]; simp; exact ⟨HNO.out, fun h => HE.out h.symm⟩, trivial⟩
    case measure => simp [numOf]; omega
  ·have hjn : j = n := by omega
   have e1 : decide ((j : Int) < n) = false := decide_eq_false (by omega)
   have HD : Hid (decide (id ∈ zs) = false) := decide_eq_false (by rw [List.take_of_length_le (by rw [HL.out]; omega)] at hno; exact hno)
   clear hno hjn
   go_wp2
   go_ret
   rw [HD.out]
   exact ⟨rfl, rfl⟩
theorem usset_any (w : World) (a : Option Addr) (N c : Nat) (zs : List Int) (hr : RdI .i64 w a N c zs) (hn : N ≤ 1000000) :
  Calls Tryz.prog 93 #[.slice a N c] w fun e w' => ∃ v, e = .returned v ∧ w'.ownsRow w.heap.size 3 1 v (setOf zs).length ((setOf zs).map encZ) ∧ Below w.heap.size w w' := by
 obtain ⟨i0, hi, hz0, hz1, hz2⟩ := info_parts infoInt
 have hle := hr.le
 have hmx := hr.max
 simp only [maxLen] at hmx
 have HR := hid hr
 have HL := hid hr.len
 have HEND : Hid (setOf (zs.take N) = setOf zs) := by rw [Hid, List.take_of_length_le (by rw [HL.out]; omega)]
 have HWF : Hid (∀ j, ∀ z ∈ setOf (zs.take j), I64 z) := fun j z hz => of_wf64 (HR.out.wf z (List.mem_of_mem_take ((mem_setOf _ _).1 hz).2))
 clear hr
 go_enter Tryz.func93, Tryz.ntmps93
 go_wp2
 go_loopw [3, 4, 5] (fun v i _ wr => ∃ j : Nat, i = .int .i64 j ∧ j ≤ N ∧ wr.ownsRow w.heap.size 3 1 v (setOf (zs.take j)).length ((setOf (zs.take j)).map encZ) ∧ RowKit.Below w.heap.size w wr)
  (fun _ i _ _ => N - (numOf i).toNat)
 case atStart => exact ⟨0, rfl, by omega, by rw [List.take_zero, setOf_nil]; exact World.ownsRow_nil _ _ _ _, Below.refl _ _⟩
 case round =>
  obtain ⟨j, rfl, hj, hr, hbw⟩ := hrel
  by_cases hgo : j < N
  ·have e1 : decide ((j : Int) < N) = true := decide_eq_true (by omega)
   obtain ⟨b, off, rfl, hb, hc⟩ := HR.out.plain (by omega)
   have hjz : j < zs.length := by rw [HL.out]; exact hgo
   have c1 := hc j hjz
   obtain ⟨yy, hyy⟩ : ∃ yy, yy = zs.getD j 0 := ⟨_, rfl⟩
   have hym : zs[j]? = some yy := by rw [hyy, List.getD, List.getElem?_eq_getElem hjz]; rfl
   rw [← hyy, ← hbw.cell hb] at c1
   have hlb : b < wr.heap.size := Nat.lt_of_lt_of_le hb hbw.size
   have hjn : (j : Int) < N := by omega
   have hs : zs.take (j + 1) = zs.take j ++ [yy] := by rw [List.take_add_one, hym]; rfl
   obtain ⟨s, hss⟩ : ∃ s, s = setOf (zs.take j) := ⟨_, rfl⟩
   have HSAME : Hid (yy < 1 ∨ yy ∈ s → setOf (zs.take (j + 1)) = s) := fun h => by rw [hs, hss]; exact set_same (by rw [← hss]; exact h)
   have HINS : Hid (¬ yy < 1 → yy ∉ s → ∀ k, (∀ y ∈ s.drop k, yy < y) → (k = 0 ∨ ∃ y, s[k - 1]? = some y ∧ y ≤ yy) → k ≤ s.length → insAt s yy k = setOf (zs.take (j + 1))) := fun h1 h2 k ha hb hk => by
    rw [hss] at h2 ha hb hk ⊢
    rw [hs]
    exact set_ins h1 h2 k ha hb hk
   have hsl : s.length ≤ 1000000 := by rw [hss]; exact Nat.le_trans (setOf_length _) (by rw [List.length_take]; omega)
   have HWS : Hid (∀ z ∈ s, I64 z) := by rw [hss]; exact HWF.out j
   rw [← hss] at hr
   clear hc hyy hym hs hss hjz
   by_cases h1 : yy < 1
   ·have e2 : decide (yy < 1) = true := decide_eq_true h1
    have HQ := hid (HSAME.out (.inl h1))
    have HRR := hid hr
    have HB := hid hbw
    clear hr hbw HSAME HINS
    go_wp2
    exact ⟨⟨j + 1, by go_num, by omega, by rw [HQ.out]; exact HRR.out, HB.out⟩, by simp [numOf]; omega⟩
   ·have e2 : decide (yy < 1) = false := decide_eq_false h1
    obtain ⟨a5, c5, rfl, hrd, -⟩ := rdi_of_owns hr HWS.out
    have HHAS := hid (ushas_any wr a5 s.length c5 s hrd yy)
    have HRR := hid hr
    have HB := hid hbw
    clear hr hbw hrd
    by_cases h2 : yy ∈ s
    ·have e3 : decide (yy ∈ s) = true := decide_eq_true h2
     rw [e3] at HHAS
     have HQ := hid (HSAME.out (.inr h2))
     clear HSAME HINS h2 e3
     go_wp2_with fail
     refine HHAS.out.mono ?_
     rintro e w2 ⟨rfl, hw2⟩
     subst hw2
     go_wp2
     exact ⟨⟨j + 1, by go_num, by omega, by rw [HQ.out]; exact HRR.out, HB.out⟩, by simp [numOf]; omega⟩
    ·have e3 : decide (yy ∈ s) = false := decide_eq_false h2
     rw [e3] at HHAS
     have HIN2 := hid (HINS.out h1 h2)
     obtain ⟨ls, hls⟩ : ∃ ls, ls = s.length := ⟨_, rfl⟩
     have HLS := hid hls
     rw [← hls] at HHAS HRR hsl ⊢
     have HA : Hid (∀ v' w', w'.ownsRow w.heap.size 3 1 v' (ls + 1) (s.map encZ ++ [.int .i64 yy]) → (wr.alloc (.cells #[.int .i64 yy] 3)).grownBy w' (Value.ownBlock (.slice a5 ls c5)) → w'.ownsRow w.heap.size 3 1 v' (ls + 1) ((insAt s yy ls).map encZ) ∧ RowKit.Below w.heap.size w w') := fun v' w' o g => by
      refine ⟨?_, (HB.out.alloc HB.out.size _).grown g (by rw [World.size_alloc]; have := HB.out.size; omega) (fun k hk => (HRR.out.lt k hk).1)⟩
      have h1 : insAt s yy ls = s ++ [yy] := by rw [hls, insAt_end]
      rw [h1, List.map_append]
      exact o
     have HSR : Hid (Src Tryz.prog 1 40 (.slice (some ⟨wr.heap.size, 0, none⟩) 1 1) 1 [.int .i64 yy] (wr.alloc (.cells #[.int .i64 yy] 3))) :=
      Src.ofSlice (P := Tryz.prog) _ Tryz.underlying40 ⟨wr.heap.size, 0, none⟩ 1 1 [.int .i64 yy] rfl (fun q u hu => by
       match q, hu with
       | 0, hu => cases hu; simp [Addr.add]
       | q + 1, hu => simp at hu) (by simp [Value.oneCell'])
     have HOW := hid (HRR.out.alloc (.cells #[.int .i64 yy] 3))
     have hsz2 : w.heap.size ≤ (wr.alloc (.cells #[.int .i64 yy] 3)).heap.size := by rw [World.size_alloc]; have := HB.out.size; omega
     clear HSAME HRR HB h2 e3 hls HINS
     go_wp2_with fail
     refine HHAS.out.mono ?_
     rintro e w2 ⟨rfl, hw2⟩
     subst hw2
     go_wp2_with (at_builtin; refine wpList_append_own_src _ rfl (.tmp 25) (.tmp 30) 40 40 rfl w.heap.size 3 i0 (.int .i64 0) 1 8 Tryz.underlying40 hi hz0 hz1 hz2 rfl _ _ _ rfl HOW.out _ _ _ rfl HSR.out (by simp only [maxLen]; omega) (fits8 (by omega)) hsz2 ?_; intro v3 w3 o3 g3; obtain ⟨o4, b4⟩ := HA.out _ _ o3 g3; clear o3 g3 HA HOW HSR; obtain ⟨a4, c4, rfl, hn4, hm4, hnil4, hcell4⟩ := row_of o4; have HO4 := hid o4; have HB4 := hid b4; have HNIL := hid hnil4; have HCELL := hid hcell4; clear o4 b4 hnil4 hcell4)
     simp only [maxLen] at hm4
     obtain ⟨x4, rfl⟩ : ∃ x, a4 = some x := by
      cases a4 with
      | none => have := (HNIL.out rfl).1; omega
      | some x => exact ⟨x, rfl⟩
     obtain ⟨g4, rfl, hg4, _, _⟩ := HCELL.out x4 rfl
     have hsl2 : s.length = ls := HLS.out.symm
     have HSL := hid hsl2
     have hsx : s.length ≤ ls := by omega
     have hsy : ls ≤ s.length := by omega
     clear HNIL HCELL c1 hsl2 HHAS
     go_loopw [5] (fun i wr => ∃ k : Nat, i = .int .i64 k ∧ k ≤ ls ∧ wr.ownsRow w.heap.size 3 1 (.slice (some ⟨g4, 0, none⟩) (ls + 1) c4) (ls + 1) ((insAt s yy k).map encZ) ∧ RowKit.Below w.heap.size w wr ∧ ∀ y ∈ s.drop k, yy < y) (fun i _ => (numOf i).toNat)
     case atStart => exact ⟨ls, by go_num, Nat.le_refl _, HO4.out, HB4.out, fun y hy => by rw [List.drop_eq_nil_of_le (by rw [HSL.out]; exact Nat.le_refl _)] at hy; cases hy⟩
     case round =>
      obtain ⟨k, rfl, hk, hr, hbw, had⟩ := hrel
      have HR := hid hr
      have HBW := hid hbw
      have HAD := hid had
      clear hr hbw had HO4 HB4
      cases k with
      | zero =>
       have e2 : decide ((0 : Int) < (0 : Nat)) = false := by decide
       have HQ : Hid (insAt s yy 0 = setOf (zs.take (j + 1))) := HIN2.out 0 HAD.out (.inl rfl) (Nat.zero_le _)
       go_wp2
       go_quiet (fail)
       go_wp2
       exact ⟨⟨j + 1, by go_num, by omega, by rw [← HQ.out, insAt_length, ← HLS.out]; exact ownsRow_below HR.out (below_drewN (Below.refl _ _) _), below_drewN HBW.out _⟩, by simp [numOf]; omega⟩
      | succ k =>
       obtain ⟨y2, hy2⟩ : ∃ y2, s[k]? = some y2 := ⟨_, List.getElem?_eq_getElem (by omega)⟩
       have HY2 := hid hy2
       have hl := insAt_length s yy (k + 1)
       have d1 : wr.cell? ⟨g4, k + 1, none⟩ = some (.int .i64 yy) := by
        rw [HR.out.cellAt _ (by omega), List.getElem?_map, insAt_at s yy (k + 1) (by omega)]; rfl
       have d0 : wr.cell? ⟨g4, k, none⟩ = some (.int .i64 y2) := by
        rw [HR.out.cellAt _ (by omega), List.getElem?_map, insAt_ahead s yy (k + 1) k (by omega) (by omega), hy2]; rfl
       clear hy2
       have hcast : ((k + 1 : Nat) : Int) = (k : Int) + 1 := by omega
       have e2 : decide ((0 : Int) < (k : Int) + 1) = true := decide_eq_true (by omega)
       have hj0 : (0 : Int) ≤ (k : Int) + 1 := by omega
       have hj1 : (k : Int) + 1 < (ls : Int) + 1 := by omega
       have hj2 : ((k : Int) + 1).toNat = k + 1 := by omega
       have hj3 : (k : Int) < (ls : Int) + 1 := by omega
       have hj4 : (k : Int) + 1 - 1 = (k : Int) := by omega
       rw [hcast]
       by_cases hlt : yy < y2
       ·have e3 : decide (yy < y2) = true := decide_eq_true hlt
        have hfz : ∀ i, wr.frozen? ⟨g4, i, none⟩ = false := fun i => HR.out.frozenAt i
        go_wp2
        go_quiet (fail)
        go_wp2_with fail
        have HD1 : Hid ((wr.drewN nq).cell? ⟨g4, k + 1, none⟩ = some (.int .i64 yy)) := d1
        have HD0 : Hid ((wr.drewN nq).cell? ⟨g4, k, none⟩ = some (.int .i64 y2)) := d0
        have HF : Hid (∀ i, (wr.drewN nq).frozen? ⟨g4, i, none⟩ = false) := hfz
        have HR2 : Hid ((wr.drewN nq).ownsRow w.heap.size 3 1 (.slice (some ⟨g4, 0, none⟩) (ls + 1) c4) (ls + 1) ((insAt s yy (k + 1)).map encZ)) := ownsRow_below HR.out (below_drewN (Below.refl _ _) _)
        have HB2 : Hid (RowKit.Below w.heap.size w (wr.drewN nq)) := below_drewN HBW.out _
        generalize wr.drewN nq = W at *
        clear d0 d1 hfz HR HBW
        have HSWA : Hid ((((insAt s yy (k + 1)).map encZ).set (k + 1) (.int .i64 y2)).set k (.int .i64 yy) = (insAt s yy k).map encZ) := by
         rw [Hid, ← insAt_swap s yy y2 k HY2.out, List.map_set, List.map_set]
        have HSWB : Hid ((((insAt s yy (k + 1)).map encZ).set k (.int .i64 yy)).set (k + 1) (.int .i64 y2) = (insAt s yy k).map encZ) := by
         rw [Hid, List.set_comm _ _ (by omega)]
         exact HSWA.out
        have HAD2 : Hid (∀ y ∈ s.drop k, yy < y) := fun y hy => by
         have hk : k < s.length := by omega
         rw [List.drop_eq_getElem_cons hk] at hy
         rcases List.mem_cons.1 hy with rfl | hy
         ·have := HY2.out
          rw [List.getElem?_eq_getElem hk] at this
          rw [Option.some.inj this]
          exact hlt
         ·exact HAD.out y hy
        have hO : W.drew.ownsRow w.heap.size 3 1 (.slice (some ⟨g4, 0, none⟩) (ls + 1) c4) (ls + 1) ((insAt s yy (k + 1)).map encZ) := ownsRow_below HR2.out (Below.refl _ _).drew
        have hBb : RowKit.Below w.heap.size w W.drew := HB2.out.drew
        have hwr : IntKind.i64.wrap (k : Int) = (k : Int) := by rw [IntKind.wrap_i64]; omega
        have HD0 : Hid (W.drew.cell? ⟨g4, k, none⟩ = some (.int .i64 y2)) := HD0.out
        have HD1 : Hid (W.drew.cell? ⟨g4, k + 1, none⟩ = some (.int .i64 yy)) := HD1.out
        clear HR2 HB2 HF
        have hHeld := trivial
        refine wp_region_held_drew (S := fun _ => True) (by kernel_rfl) hHeld (fun _ => ?_)
        generalize W.drew = U0 at *
        refine wpAnyH_take (i := 0) (v := ?_) rfl (by kernel_rfl) (by kernel_rfl) (by kernel_rfl) (fun _ _ _ h => h) (Or.inl ⟨by kernel_rfl, ?hy0⟩) (by assumption) ?_
        case hy0 => (intro w hSw; (try dsimp only at hSw); go_simp; try with_reducible rfl)
        try simp only [Act.put, lqA, lqB, lqD, lqE, lqF]
        refine wpAnyH_take (i := 1) (v := ?_) rfl (by kernel_rfl) (by kernel_rfl) (by kernel_rfl) (fun _ _ _ h => h) (Or.inl ⟨by kernel_rfl, ?hy1⟩) (by assumption) ?_
        case hy1 => (intro w hSw; (try dsimp only at hSw); go_simp; try with_reducible rfl)
        try simp only [Act.put, lqA, lqB, lqC, lqD, lqE, lqF]
        refine wpAnyH_take (i := 2) (v := ?_) rfl (by kernel_rfl) (by kernel_rfl) (by kernel_rfl) (fun _ _ _ h => h) (Or.inl ⟨by kernel_rfl, ?hy2⟩) (by assumption) ?_
        case hy2 => (intro w hSw; (try dsimp only at hSw); go_simp; try with_reducible rfl)
        try simp only [Act.put, lqA, lqB, lqC, lqD, lqE, lqF]
        refine wpAnyH_take (i := 3) (v := ?_) rfl (by kernel_rfl) (by kernel_rfl) (by kernel_rfl) (fun _ _ _ h => h) (Or.inl ⟨by kernel_rfl, ?hy3⟩) (by assumption) ?_
        case hy3 => (intro w hSw; (try dsimp only at hSw); go_simp; try with_reducible rfl)
        try simp only [Act.put, lqA, lqB, lqC, lqD, lqE, lqF]
        refine wpAnyH_take (i := 4) (v := ?_) rfl (by kernel_rfl) (by kernel_rfl) (by kernel_rfl) (fun _ _ _ h => h) (Or.inl ⟨by kernel_rfl, ?hy4⟩) (by assumption) ?_
        case hy4 => (intro w hSw; (try dsimp only at hSw); go_simp; try with_reducible rfl)
        try simp only [Act.put, lqA, lqB, lqC, lqD, lqE, lqF]
        refine wpAnyH_take (i := 5) (v := ?_) rfl (by kernel_rfl) (by kernel_rfl) (by kernel_rfl) (fun _ _ _ h => h) (Or.inl ⟨by kernel_rfl, ?hy5⟩) (by assumption) ?_
        case hy5 => (intro w hSw; (try dsimp only at hSw); go_simp; try with_reducible rfl)
        try simp only [Act.put, lqA, lqB, lqC, lqD, lqE, lqF]
        refine wpAnyH_take (i := 6) (v := ?_) rfl (by kernel_rfl) (by kernel_rfl) (by kernel_rfl) (fun _ _ _ h => h) (Or.inl ⟨by kernel_rfl, ?hy6⟩) (by assumption) ?_
        case hy6 => (intro w hSw; (try dsimp only at hSw); go_simp; try with_reducible rfl)
        try simp only [Act.put, lqA, lqB, lqC, lqD, lqE, lqF]
        refine wpAnyH_take (i := 7) (v := ?_) rfl (by kernel_rfl) (by kernel_rfl) (by kernel_rfl) (fun _ _ _ h => h) (Or.inl ⟨by kernel_rfl, ?hy7⟩) (by assumption) ?_
        case hy7 => (intro w hSw; (try dsimp only at hSw); go_simp; try with_reducible rfl)
        try simp only [Act.put, lqA, lqB, lqC, lqD, lqE, lqF]
        refine wpAnyH_take (i := 8) (v := ?_) rfl (by kernel_rfl) (by kernel_rfl) (by kernel_rfl) (fun _ _ _ h => h) (Or.inl ⟨by kernel_rfl, ?hy8⟩) (by assumption) ?_
        case hy8 => (intro w hSw; (try dsimp only at hSw); go_simp; try with_reducible rfl)
        try simp only [Act.put, lqA, lqB, lqC, lqD, lqE, lqF]
        refine wpAnyH_take (i := 10) (v := ?_) rfl (by kernel_rfl) (by kernel_rfl) (by kernel_rfl) (fun _ _ _ h => h) (Or.inl ⟨by kernel_rfl, ?hy10⟩) (by assumption) ?_
        case hy10 => (intro w hSw; (try dsimp only at hSw); go_simp; try with_reducible rfl)
        try simp only [Act.put, lqA, lqB, lqC, lqD, lqE, lqF]
        refine wpAnyH_take (i := 11) (v := ?_) rfl (by kernel_rfl) (by kernel_rfl) (by kernel_rfl) (fun _ _ _ h => h) (Or.inl ⟨by kernel_rfl, ?hy11⟩) (by assumption) ?_
        case hy11 => (intro w hSw; (try dsimp only at hSw); go_simp; try with_reducible rfl)
        try simp only [Act.put, lqA, lqB, lqC, lqD, lqE, lqF]
        refine wpAnyH_take (i := 12) (v := ?_) rfl (by kernel_rfl) (by kernel_rfl) (by kernel_rfl) (fun _ _ _ h => h) (Or.inl ⟨by kernel_rfl, ?hy12⟩) (by assumption) ?_
        case hy12 => (intro w hSw; (try dsimp only at hSw); go_simp; try with_reducible rfl)
        try simp only [Act.put, lqA, lqB, lqC, lqD, lqE, lqF]
        refine wpAnyH_ready (rs := [9, 13]) (by kernel_rfl) (by simp) ?_
        refine AllReadyH.cons rfl (fun K hK => ?_) ?_
        ·have ca := HD0.out
         go_simp
         refine hK.out _ _ trivial (fun _ => ?_)
         clear hK K ca
         try simp only [Act.put, lqA, lqB, lqC, lqD, lqE, lqF]
         refine wpAnyH_ready (rs := [13]) (by kernel_rfl) (by simp) ?_
         refine AllReadyH.cons rfl (fun K hK => ?_) AllReadyH.nil
         have ca := HD1.out
         go_simp
         refine hK.out _ _ trivial (fun _ => ?_)
         clear hK K ca
         try simp only [Act.put, lqA, lqB, lqC, lqD, lqE, lqF]
         refine wpAnyH_take (i := 14) (v := ?_) rfl (by kernel_rfl) (by kernel_rfl) (by kernel_rfl) (fun _ _ _ h => h) (Or.inl ⟨by kernel_rfl, ?hy14⟩) (by assumption) ?_
         case hy14 => (intro w hSw; (try dsimp only at hSw); go_simp; try with_reducible rfl)
         try simp only [Act.put, lqA, lqB, lqC, lqD, lqE, lqF]
         refine wpAnyH_ready (rs := [15]) (by kernel_rfl) (by simp) ?_
         refine AllReadyH.cons rfl (fun K hK => ?_) AllReadyH.nil
         obtain ⟨v0, cb⟩ := own_some hO (k + 1) (by omega)
         have fb := hO.frozenAt (k + 1)
         go_simp
         replace hO := (hO.stored (k + 1) (.int .i64 y2)).1
         replace hBb := hBb.setCell (p := ⟨g4, k + 1, none⟩) hg4 (.int .i64 y2)
         refine hK.out _ _ trivial (fun _ => ?_)
         clear hK K cb fb
         try simp only [Act.put, lqA, lqB, lqC, lqD, lqE, lqF]
         refine wpAnyH_take (i := 16) (v := ?_) rfl (by kernel_rfl) (by kernel_rfl) (by kernel_rfl) (fun _ _ _ h => h) (Or.inl ⟨by kernel_rfl, ?hy16⟩) (by assumption) ?_
         case hy16 => (intro w hSw; (try dsimp only at hSw); go_simp; try with_reducible rfl)
         try simp only [Act.put, lqA, lqB, lqC, lqD, lqE, lqF]
         refine wpAnyH_ready (rs := [17]) (by kernel_rfl) (by simp) ?_
         refine AllReadyH.cons rfl (fun K hK => ?_) AllReadyH.nil
         obtain ⟨v1, cb⟩ := own_some hO k (by omega)
         have fb := hO.frozenAt k
         go_simp
         replace hO := (hO.stored k (.int .i64 yy)).1
         replace hBb := hBb.setCell (p := ⟨g4, k, none⟩) hg4 (.int .i64 yy)
         refine hK.out _ _ trivial (fun _ => ?_)
         clear hK K cb fb
         try simp only [Act.put, lqA, lqB, lqC, lqD, lqE, lqF]
         refine wpAnyH_done (by kernel_rfl) ?_ _
         have HO9 := hid hO
         have HB9 := hid hBb
         clear hO hBb
         go_wp2
         first | rw [HSWA.out] at HO9 | rw [HSWB.out] at HO9
         exact ⟨⟨k, by go_num, by omega, HO9.out, HB9.out, HAD2.out⟩, by simp [numOf]⟩
        refine AllReadyH.cons rfl (fun K hK => ?_) ?_
        ·have ca := HD1.out
         go_simp
         refine hK.out _ _ trivial (fun _ => ?_)
         clear hK K ca
         try simp only [Act.put, lqA, lqB, lqC, lqD, lqE, lqF]
         refine wpAnyH_ready (rs := [9]) (by kernel_rfl) (by simp) ?_
         refine AllReadyH.cons rfl (fun K hK => ?_) AllReadyH.nil
         have ca := HD0.out
         go_simp
         refine hK.out _ _ trivial (fun _ => ?_)
         clear hK K ca
         try simp only [Act.put, lqA, lqB, lqC, lqD, lqE, lqF]
         refine wpAnyH_take (i := 14) (v := ?_) rfl (by kernel_rfl) (by kernel_rfl) (by kernel_rfl) (fun _ _ _ h => h) (Or.inl ⟨by kernel_rfl, ?hy14⟩) (by assumption) ?_
         case hy14 => (intro w hSw; (try dsimp only at hSw); go_simp; try with_reducible rfl)
         try simp only [Act.put, lqA, lqB, lqC, lqD, lqE, lqF]
         refine wpAnyH_ready (rs := [15]) (by kernel_rfl) (by simp) ?_
         refine AllReadyH.cons rfl (fun K hK => ?_) AllReadyH.nil
         obtain ⟨v0, cb⟩ := own_some hO (k + 1) (by omega)
         have fb := hO.frozenAt (k + 1)
         go_simp
         replace hO := (hO.stored (k + 1) (.int .i64 y2)).1
         replace hBb := hBb.setCell (p := ⟨g4, k + 1, none⟩) hg4 (.int .i64 y2)
         refine hK.out _ _ trivial (fun _ => ?_)
         clear hK K cb fb
         try simp only [Act.put, lqA, lqB, lqC, lqD, lqE, lqF]
         refine wpAnyH_take (i := 16) (v := ?_) rfl (by kernel_rfl) (by kernel_rfl) (by kernel_rfl) (fun _ _ _ h => h) (Or.inl ⟨by kernel_rfl, ?hy16⟩) (by assumption) ?_
         case hy16 => (intro w hSw; (try dsimp only at hSw); go_simp; try with_reducible rfl)
         try simp only [Act.put, lqA, lqB, lqC, lqD, lqE, lqF]
         refine wpAnyH_ready (rs := [17]) (by kernel_rfl) (by simp) ?_
         refine AllReadyH.cons rfl (fun K hK => ?_) AllReadyH.nil
         obtain ⟨v1, cb⟩ := own_some hO k (by omega)
         have fb := hO.frozenAt k
         go_simp
         replace hO := (hO.stored k (.int .i64 yy)).1
         replace hBb := hBb.setCell (p := ⟨g4, k, none⟩) hg4 (.int .i64 yy)
         refine hK.out _ _ trivial (fun _ => ?_)
         clear hK K cb fb
         try simp only [Act.put, lqA, lqB, lqC, lqD, lqE, lqF]
         refine wpAnyH_done (by kernel_rfl) ?_ _
         have HO9 := hid hO
         have HB9 := hid hBb
         clear hO hBb
         go_wp2
         first | rw [HSWA.out] at HO9 | rw [HSWB.out] at HO9
         exact ⟨⟨k, by go_num, by omega, HO9.out, HB9.out, HAD2.out⟩, by simp [numOf]⟩
        exact AllReadyH.nil
       ·have e3 : decide (yy < y2) = false := decide_eq_false hlt
        have HQ : Hid (insAt s yy (k + 1) = setOf (zs.take (j + 1))) := HIN2.out (k + 1) HAD.out (.inr ⟨y2, HY2.out, by omega⟩) (by omega)
        go_wp2
        go_quiet (fail)
        go_wp2
        exact ⟨⟨j + 1, by go_num, by omega, by rw [← HQ.out, insAt_length, ← HLS.out]; exact ownsRow_below HR.out (below_drewN (Below.refl _ _) _), below_drewN HBW.out _⟩, by simp [numOf]; omega⟩
  ·have hjN : j = N := by omega
   have e1 : decide ((j : Int) < N) = false := decide_eq_false (by omega)
   rw [hjN, HEND.out] at hr
   have HR := hid hr
   have HB := hid hbw
   clear hr hbw hjN
   go_wp2
   go_ret
   exact ⟨_, rfl, HR.out, HB.out⟩
end
end Go.Proofs.YtdgknofpkafppaaGreatDoor
