/- The program's surfaces: covers, takes (slices.IndexFunc, slices.ContainsFunc over rectangles). -/
import Derived.Test.YtegmolmjoiklpaaSeA
import Derived.Laws.Rows
import Derived.Lib.Builder
import Derived.Shelf.Abstract
namespace Go.Proofs.Ytegmolmjoiklpaa
open Go Go.RowKit

variable {w : World}
theorem bel_nw (w : World) (o : Obj) : Below w.heap.size w (w.alloc o) := (Below.refl _ _).alloc (Nat.le_refl _) _

theorem cell_nw (w : World) (v : Value) (T : Nat) {k : Nat} (hk : k = w.heap.size) : (w.alloc (.cells #[v] T)).cell? ⟨k, 0, none⟩ = some v := by
  rw [hk, Lib.cell_of_heap (heap_alloc_new w _)]
  rfl
theorem cell_ol {w : World} {a : Addr} {v : Value} (h : w.cell? a = some v) (o : Obj) : (w.alloc o).cell? a = some v := by
  rw [(bel_nw w o).cell (World.block_lt_of_cell? w _ h)]
  exact h
theorem ok_rc4 {l : List (List Int)} (h : Ok4 l) {z0 z1 z2 z3 : Int} (hm : [z0, z1, z2, z3] ∈ l) : (Rc.mk z0 z1 z2 z3).Ok :=
  ⟨h _ hm z0 (by simp), h _ hm z1 (by simp), h _ hm z2 (by simp), h _ hm z3 (by simp)⟩

set_option maxRecDepth 100000 in
theorem covers_any (h : Ht) (ok : h.Ok) (x y : Int) (hx : -9223372036854775808 ≤ x ∧ x ≤ 9223372036854775807) (hy : -9223372036854775808 ≤ y ∧ y ≤ 9223372036854775807) (w : World) :
    Calls Try.prog 27 #[.agg (htv h), .int .i64 x, .int .i64 y] w fun e w' => e = .returned (.bool (h.cov x y)) ∧ Below w.heap.size w w' := by
  have CC := hid (fun u => has_any ⟨h.x, h.y, h.w, h.h⟩ ⟨ok.x, ok.y, ok.w, ok.h⟩ x y hx hy u)
  clear ok
  rw [htv]
  go_enter Try.func27, Try.ntmps27
  go_wp2_with fail
  refine (CC.out _).mono ?_
  rintro e w1 ⟨rfl, hb⟩
  have HB := hid (Below.on (bel_nw w _) hb)
  clear hb
  go_wp2
  go_ret
  exact ⟨rfl, HB.out⟩

set_option maxRecDepth 100000 in
theorem takes1_any (p q : Nat) (x y : Int) (hx : -9223372036854775808 ≤ x ∧ x ≤ 9223372036854775807) (hy : -9223372036854775808 ≤ y ∧ y ≤ 9223372036854775807) (w : World) (cp : w.cell? ⟨p, 0, none⟩ = some (.int .i64 x)) (cq : w.cell? ⟨q, 0, none⟩ = some (.int .i64 y))
    (z0 z1 z2 z3 : Int) (ok : (Rc.mk z0 z1 z2 z3).Ok) (u : World) (hu : Below w.heap.size w u) :
    Calls Try.prog 40 (#[.agg #[.int .i64 z0, .int .i64 z1, .int .i64 z2, .int .i64 z3]] ++ #[.pointer (some ⟨p, 0, none⟩), .pointer (some ⟨q, 0, none⟩)]) u fun e w' => e = .returned (.bool (has (rc4 [z0, z1, z2, z3]) x y)) ∧ Below u.heap.size u w' := by
  have lp := World.block_lt_of_cell? w _ cp
  have lq := World.block_lt_of_cell? w _ cq
  have dp : u.cell? ⟨p, 0, none⟩ = some (.int .i64 x) := by rw [hu.cell lp]; exact cp
  have dq : u.cell? ⟨q, 0, none⟩ = some (.int .i64 y) := by rw [hu.cell lq]; exact cq
  have hb := bel_nw u (.cells #[.int .i64 z0, .int .i64 z1, .int .i64 z2, .int .i64 z3] 59)
  have fp : (u.alloc (.cells #[.int .i64 z0, .int .i64 z1, .int .i64 z2, .int .i64 z3] 59)).cell? ⟨p, 0, none⟩ = some (.int .i64 x) := by rw [hb.cell (World.block_lt_of_cell? u _ dp)]; exact dp
  have fq : (u.alloc (.cells #[.int .i64 z0, .int .i64 z1, .int .i64 z2, .int .i64 z3] 59)).cell? ⟨q, 0, none⟩ = some (.int .i64 y) := by rw [hb.cell (World.block_lt_of_cell? u _ dq)]; exact dq
  have CC := hid (fun u => has_any ⟨z0, z1, z2, z3⟩ ok x y hx hy u)
  have HB := hid hb
  clear hb hu ok
  go_enter Try.func40, Try.ntmps40
  go_wp2_with fail
  refine (CC.out _).mono ?_
  rintro e w1 ⟨rfl, hb⟩
  have HB2 := hid (Below.on HB.out hb)
  clear hb
  go_wp2
  go_ret
  exact ⟨rfl, HB2.out⟩

/-- An index, or -1 if none of them has the point. -/
def IxH (l : List (List Int)) (x y : Int) (e : Ending) : Prop := ∃ z : Int, e = .returned (.int .i64 z) ∧ -1 ≤ z ∧ z ≤ 9223372036854775807 ∧ decide (0 ≤ z) = l.any fun r => has (rc4 r) x y
set_option maxRecDepth 100000 in
set_option maxHeartbeats 1000000 in
theorem hindex_any (a : Option Addr) (n c : Nat) (l : List (List Int)) (ok : Ok4 l) (p q : Nat) (x y : Int) (hx : -9223372036854775808 ≤ x ∧ x ≤ 9223372036854775807) (hy : -9223372036854775808 ≤ y ∧ y ≤ 9223372036854775807) (w : World) (cp : w.cell? ⟨p, 0, none⟩ = some (.int .i64 x)) (cq : w.cell? ⟨q, 0, none⟩ = some (.int .i64 y)) (h : RdM 4 w a n c l) :
    Calls Try.prog 48 #[.slice a n c, .func (.func 40) #[] #[.pointer (some ⟨p, 0, none⟩), .pointer (some ⟨q, 0, none⟩)]] w fun e w' => IxH l x y e ∧ Below w.heap.size w w' := by
  have HL := hid h.len
  have hs := h.small
  have H := hid h
  have HO := hid ok
  have HP := hid (takes1_any p q x y hx hy w cp cq)
  have eg := enters_of Try.func40 (by kernel_rfl) rfl
  clear h ok cp cq
  go_enter Try.func48, Try.ntmps48
  go_wp2
  go_loopw [8] (fun i wr => ∃ j : Nat, i = .int .i64 j ∧ j ≤ n ∧ (∀ (i : Nat) r, i < j → l[i]? = some r → has (rc4 r) x y = false) ∧ RowKit.Below w.heap.size w wr) (fun i _ => n - (numOf i).toNat)
  case atStart => exact ⟨0, rfl, by omega, fun k r hk => absurd hk (by omega), Below.refl _ _⟩
  case round =>
    obtain ⟨j, rfl, hj, hN, hb⟩ := hrel
    have HN := hid hN
    have HB := hid hb
    clear hN hb
    by_cases hgo : j < n
    · have e1 : decide ((j : Int) < n) = true := decide_eq_true (by omega)
      obtain ⟨b, off, z0, z1, z2, z3, rfl, _, hr, c0, c1, c2, c3⟩ := (H.out.on HB.out).el4 hgo
      have CP := hid (HP.out z0 z1 z2 z3 (ok_rc4 HO.out (List.mem_of_getElem? hr)) wr HB.out)
      have HR := hid hr
      have e3 : (j : Int) < n := by omega
      clear hr
      cases hq : has (rc4 [z0, z1, z2, z3]) x y
      · rw [hq] at CP
        have HN2 : Hid (∀ (i : Nat) r, i < j + 1 → l[i]? = some r → has (rc4 r) x y = false) := fun i r hi hx => by
          rcases Nat.lt_or_ge i j with h | h
          · exact HN.out i r h hx
          · obtain rfl : i = j := by omega
            rw [HR.out] at hx
            cases hx
            exact hq
        clear hq
        go_wp2_with fail
        refine CP.out.mono ?_
        rintro e w2 ⟨rfl, hb2⟩
        have HB2 := hid (Below.on HB.out hb2)
        clear hb2
        go_wp2
        go_roundw
        case rel => exact ⟨j + 1, by go_num, by omega, HN2.out, HB2.out⟩
        case measure => simp [numOf]; omega
      · rw [hq] at CP
        have HI : Hid (l.any (fun r => has (rc4 r) x y) = true) := List.any_eq_true.2 ⟨_, List.mem_of_getElem? HR.out, hq⟩
        clear hq
        go_wp2_with fail
        refine CP.out.mono ?_
        rintro e w2 ⟨rfl, hb2⟩
        have HB2 := hid (Below.on HB.out hb2)
        clear hb2
        go_wp2
        go_ret
        exact ⟨⟨_, rfl, by omega, by omega, by rw [HI.out]; exact decide_eq_true (by omega)⟩, HB2.out⟩
    · have e1 : decide ((j : Int) < n) = false := decide_eq_false (by omega)
      have HI : Hid (l.any (fun r => has (rc4 r) x y) = false) := List.any_eq_false.2 fun r hr => by
        obtain ⟨k, hk, e⟩ := List.mem_iff_getElem.1 hr
        rw [HN.out k r (by rw [HL.out] at hk; omega) (by rw [List.getElem?_eq_getElem hk, e])]
        decide
      go_wp2
      go_ret
      exact ⟨⟨_, rfl, by omega, by omega, by rw [HI.out]; rfl⟩, HB.out⟩

set_option maxRecDepth 100000 in
theorem hcontains_any (a : Option Addr) (n c : Nat) (l : List (List Int)) (ok : Ok4 l) (p q : Nat) (x y : Int) (hx : -9223372036854775808 ≤ x ∧ x ≤ 9223372036854775807) (hy : -9223372036854775808 ≤ y ∧ y ≤ 9223372036854775807) (w : World) (cp : w.cell? ⟨p, 0, none⟩ = some (.int .i64 x)) (cq : w.cell? ⟨q, 0, none⟩ = some (.int .i64 y)) (h : RdM 4 w a n c l) :
    Calls Try.prog 39 #[.slice a n c, .func (.func 40) #[] #[.pointer (some ⟨p, 0, none⟩), .pointer (some ⟨q, 0, none⟩)]] w fun e w' => e = .returned (.bool (l.any fun r => has (rc4 r) x y)) ∧ Below w.heap.size w w' := by
  have CC := hid (hindex_any a n c l ok p q x y hx hy w cp cq h)
  clear ok cp cq h
  go_enter Try.func39, Try.ntmps39
  go_wp2_with fail
  refine CC.out.mono ?_
  rintro e w1 ⟨⟨z, rfl, z1, z2, hz⟩, hb⟩
  have HB := hid hb
  have HZ := hid hz
  clear hb hz
  go_wp2
  go_ret
  rw [← HZ.out]
  exact ⟨rfl, HB.out⟩

set_option maxRecDepth 100000 in
theorem takes_any (h : Ht) (ok : h.Ok) (x y : Int) (hx : -9223372036854775808 ≤ x ∧ x ≤ 9223372036854775807) (hy : -9223372036854775808 ≤ y ∧ y ≤ 9223372036854775807) (w : World) (hr : RdM 4 w h.a h.n h.c h.l) :
    Calls Try.prog 28 #[.agg (htv h), .int .i64 x, .int .i64 y] w fun e w' => e = .returned (.bool (h.tks x y)) ∧ Below w.heap.size w w' := by
  have HB0 : Hid (RowKit.Below w.heap.size w (((w.alloc (.cells (htv h) 61)).alloc (.cells #[.int .i64 x] 3)).alloc (.cells #[.int .i64 y] 3))) := (((Below.refl _ w).alloc (Nat.le_refl _) _).alloc (by simp) _).alloc (by simp; omega) _
  have CC : Hid (∀ u, u = (((w.alloc (.cells (htv h) 61)).alloc (.cells #[.int .i64 x] 3)).alloc (.cells #[.int .i64 y] 3)) → Calls Try.prog 39 #[.slice h.a h.n h.c, .func (.func 40) #[] #[.pointer (some ⟨w.heap.size + 1, 0, none⟩), .pointer (some ⟨w.heap.size + 1 + 1, 0, none⟩)]] u fun e w' => e = .returned (.bool (h.l.any fun r => has (rc4 r) x y)) ∧ RowKit.Below u.heap.size u w') := fun u hu => by
    refine hcontains_any h.a h.n h.c h.l ok.l _ _ x y hx hy u ?_ ?_ (hr.on (by rw [hu]; exact HB0.out))
    · rw [hu]; exact cell_ol (cell_nw _ _ _ (by simp)) _
    · rw [hu]; exact cell_nw _ _ _ (by simp)
  clear hr ok
  rw [htv] at CC HB0 ⊢
  cases ht : h.t
  · rw [ht] at CC HB0
    have HT := hid ht
    go_enter Try.func28, Try.ntmps28
    clear ht
    go_wp2_with fail
    refine (CC.out _ rfl).mono ?_
    rintro e w1 ⟨rfl, hb⟩
    have HB := hid (Below.on HB0.out hb)
    clear hb
    go_wp2
    go_ret
    rw [Ht.tks, HT.out]
    exact ⟨rfl, HB.out⟩
  · rw [ht] at CC HB0
    have HT := hid ht
    go_enter Try.func28, Try.ntmps28
    clear ht
    go_wp2
    go_ret
    rw [Ht.tks, HT.out]
    exact ⟨rfl, HB0.out⟩
end Go.Proofs.Ytegmolmjoiklpaa
