/- Lemmas that the proof leans on. -/
import Derived.Test.YtkjempffidndeaaGreatDoorB02
import Derived.Test.YtkjempffidndeaaGreatDoorB06
import Derived.RangeFuncWrites
import Derived.RangeFuncBound
import Derived.RangeFuncCalls
import Derived.OrdersIn
namespace Go.Proofs.YtkjempffidndeaaGreatDoor
open Go Go.RowKit
open List renaming getElem_toArray → lqA, getElem_cons_zero → lqB, getElem_cons_succ → lqC, setIfInBounds_toArray → lqD, set_cons_zero → lqE, set_cons_succ → lqF
set_option maxRecDepth 100000
set_option maxHeartbeats 2000000
section
def fnz (m : Nat) (k : Int) (l : List (List Int)) : List Int := match fnd k l with
 | some y => y
 | none => List.replicate m 0
theorem fnz_some {m : Nat} {k : Int} {l : List (List Int)} {i : Nat} {y : List Int} (h : ixf k l = some i) (hz : l[i]? = some y) : fnz m k l = y := by
 obtain ⟨_, h2, _⟩ := ixf_some h
 rw [hz] at h2
 rw [fnz, h2]
theorem fnz_none {m : Nat} {k : Int} {l : List (List Int)} (h : ixf k l = none) : fnz m k l = List.replicate m 0 := by
 rw [fnz, (ixf_none h).2]
theorem fnz_szf {k : Int} {l : List (List Int)} {z0 z1 z2 : Int} (h : fnz 3 k l = [z0, z1, z2]) : szf l k = [z1, z2] := by
 unfold fnz at h
 unfold szf
 cases hf : fnd k l with
 | none => rw [hf] at h; cases h; rfl
 | some y => rw [hf] at h; cases h; rfl
theorem vcut_any (z : Int) (hz : Bt z) (w : World) : Calls Tryz.prog 66 #[.int .i64 z] w fun e w' => e = .returned (.int .i64 (edg z)) ∧ w' = w := by
 have h1 := hz.1
 have h2 := hz.2
 have HE : Hid (∀ x, x = edg z → Ending.returned (.int .i64 x) = Ending.returned (.int .i64 (edg z))) := fun x hx => by rw [hx]
 go_enter Tryz.func66, Tryz.ntmps66
 go_wp2
 go_ret
 exact ⟨HE.out _ (by unfold edg; omega), rfl⟩
theorem vsize_fn (k : Int) (w : World) (q : Nat) (hq : w.cell? ⟨q, 0, none⟩ = some (.int .i64 k)) (z0 z1 z2 : Int) (u : World) (hu : Below w.heap.size w u) :
  Calls Tryz.prog 71 (#[.agg #[.int .i64 z0, .int .i64 z1, .int .i64 z2]] ++ #[.pointer (some ⟨q, 0, none⟩)]) u fun e w' => e = .returned (.bool (z0 == k)) ∧ Below u.heap.size u w' := by
 have hlt := World.block_lt_of_cell? w _ hq
 have hc : u.cell? ⟨q, 0, none⟩ = some (.int .i64 k) := by rw [hu.cell hlt]; exact hq
 have hb := bel_new u (.cells #[.int .i64 z0, .int .i64 z1, .int .i64 z2] 67)
 have hc2 : (u.alloc (.cells #[.int .i64 z0, .int .i64 z1, .int .i64 z2] 67)).cell? ⟨q, 0, none⟩ = some (.int .i64 k) := by rw [hb.cell (World.block_lt_of_cell? u _ hc)]; exact hc
 have HB := hid hb
 clear hb hu
 go_enter Tryz.func71, Tryz.ntmps71
 go_wp2
 go_ret
 exact ⟨rfl, HB.out⟩
theorem vsize_ix (a : Option Addr) (n c : Nat) (l : List (List Int)) (k : Int) (q : Nat) (w : World) (h : RdM 3 w a n c l) (hq : w.cell? ⟨q, 0, none⟩ = some (.int .i64 k)) :
  Calls Tryz.prog 70 #[.slice a n c, .func (.func 71) #[] #[.pointer (some ⟨q, 0, none⟩)]] w fun e w' => e = .returned (.int .i64 (ixI k l)) ∧ Below w.heap.size w w' := by
 have HL := hid h.len
 have hs := h.small
 have H := hid h
 have HP : Hid (∀ (z0 z1 z2 : Int) (u : World), Below w.heap.size w u → Calls Tryz.prog 71 (#[.agg #[.int .i64 z0, .int .i64 z1, .int .i64 z2]] ++ #[.pointer (some ⟨q, 0, none⟩)]) u fun e w' => e = .returned (.bool (z0 == k)) ∧ Below u.heap.size u w') := fun z0 z1 z2 u hu => vsize_fn k w q hq z0 z1 z2 u hu
 have eg := enters_of Tryz.func71 (by kernel_rfl) rfl
 clear h hq
 go_enter Tryz.func70, Tryz.ntmps70
 go_wp2
 go_loopw [8] (fun i wr => ∃ j : Nat, i = .int .i64 j ∧ j ≤ n ∧ (∀ i y, i < j → l[i]? = some y → hd y ≠ k) ∧ RowKit.Below w.heap.size w wr) (fun i _ => n - (numOf i).toNat)
 case atStart => exact ⟨0, rfl, by omega, fun k r hk => absurd hk (by omega), Below.refl _ _⟩
 case round =>
  obtain ⟨j, rfl, hj, hN, hb⟩ := hrel
  have HN := hid hN
  have HB := hid hb
  clear hN hb
  by_cases hgo : j < n
  ·have e1 : decide ((j : Int) < n) = true := decide_eq_true (by omega)
   obtain ⟨b, off, z0, z1, z2, rfl, _, hr, c0, c1, c2⟩ := (H.out.on HB.out).el3 hgo
   have CP := hid (HP.out z0 z1 z2 wr HB.out)
   have HR := hid hr
   have e3 : (j : Int) < n := by omega
   clear hr
   cases hq : (z0 == k)
   ·rw [hq] at CP
    have HN2 : Hid (∀ i x, i < j + 1 → l[i]? = some x → hd x ≠ k) := fun i x hi hx => by
     rcases Nat.lt_or_ge i j with h | h
     ·exact HN.out i x h hx
     ·obtain rfl : i = j := by omega
      rw [HR.out] at hx
      cases hx
      show z0 ≠ k
      simpa using hq
    clear hq
    go_wp2_with fail
    refine CP.out.mono ?_
    rintro e w2 ⟨rfl, hb2⟩
    have HB2 := hid (Below.on HB.out hb2)
    clear hb2
    go_wp2
    go_roundw
    case rel => exact ⟨j + 1, by go_num, by omega, HN2.out, HB2.out⟩
    case measure => simp [numOf]; omega
   ·rw [hq] at CP
    have HI : Hid (ixI k l = j) := by
     rw [Hid, ixI, ixf_drop HN.out, drop_at' HR.out, ixf, if_pos (show hd [z0, z1, z2] = k from (show z0 = k by simpa using hq))]
     simp
    clear hq
    go_wp2_with fail
    refine CP.out.mono ?_
    rintro e w2 ⟨rfl, hb2⟩
    have HB2 := hid (Below.on HB.out hb2)
    clear hb2
    go_wp2
    go_ret
    rw [HI.out]
    exact ⟨rfl, HB2.out⟩
  ·have e1 : decide ((j : Int) < n) = false := decide_eq_false (by omega)
   have HI : Hid (ixI k l = -1) := by
    rw [Hid, ixI, ixf_drop HN.out, List.drop_eq_nil_of_le (by rw [HL.out]; omega)]
    rfl
   go_wp2
   go_ret
   rw [HI.out]
   exact ⟨rfl, HB.out⟩
theorem info_vsize : (Tryz.prog.info? 67).map (·.size) = some 3 := by kernel_rfl
theorem vsize_any (a : Option Addr) (n c : Nat) (l : List (List Int)) (k : Int) (w : World) (h : RdM 3 w a n c l) :
  Calls Tryz.prog 24 #[.slice a n c, .int .i64 k] w fun e w' => ∃ z0 z1 z2, e = .returned (.agg #[.int .i64 z0, .int .i64 z1, .int .i64 z2]) ∧ fnz 3 k l = [z0, z1, z2] ∧ Below w.heap.size w w' := by
 have hs := h.small
 have hl := h.len
 have hb0 := bel_new w (.cells #[.int .i64 k] 3)
 have hb := Below.on hb0 (bel_new _ (.cells #[.int .i64 0, .int .i64 0, .int .i64 0] 67))
 have h1 := h.on hb
 have HQ := ((bk_new w #[.int .i64 k] 3).on (bel_new _ (.cells #[.int .i64 0, .int .i64 0, .int .i64 0] 67))).cell 0
 have CI := hid (vsize_ix a n c l k w.heap.size _ h1 HQ)
 have HK : Hid (Bk ((w.alloc (.cells #[.int .i64 k] 3)).alloc (.cells #[.int .i64 0, .int .i64 0, .int .i64 0] 67)) (w.heap.size + 1) 67 #[.int .i64 0, .int .i64 0, .int .i64 0]) := by
  have := bk_new (w.alloc (.cells #[.int .i64 k] 3)) #[.int .i64 0, .int .i64 0, .int .i64 0] 67
  rwa [size_new] at this
 have HB := hid hb
 clear HQ hb0
 cases hx : ixf k l with
 | none =>
  have hi : ixI k l = -1 := by rw [ixI, hx]
  rw [hi] at CI
  have HF : Hid (fnz 3 k l = [0, 0, 0]) := fnz_none hx
  have HS := hid hx
  clear h h1 hb hx hi hl
  go_enter Tryz.func24, Tryz.ntmps24
  go_wp2_with fail
  refine CI.out.mono ?_
  rintro e w2 ⟨rfl, hb2⟩
  have HB2 := hid (Below.on HB.out hb2)
  have HK2 := hid (HK.out.on hb2)
  have f0 := HK2.out.fz
  have c0 := HK2.out.cell 0
  have c1 := HK2.out.cell 1
  have c2 := HK2.out.cell 2
  clear hb2
  go_wp2
  refine bodyPost_ret (results_cell_row rfl _ _ (w.heap.size + 1) _ _ _ _ rfl (((HK2.out.set 0 _).set 1 _).set 2 _).obj Tryz.underlying67 rfl info_vsize) rfl ?_
  exact ⟨0, 0, 0, rfl, HF.out, (((HB2.out.setCell (p := ⟨w.heap.size + 1, 0, none⟩) (by show w.heap.size ≤ w.heap.size + 1; omega) _).setCell (p := ⟨w.heap.size + 1, 1, none⟩) (by show w.heap.size ≤ w.heap.size + 1; omega) _).setCell (p := ⟨w.heap.size + 1, 2, none⟩) (by show w.heap.size ≤ w.heap.size + 1; omega) _)⟩
 | some i =>
  have hi : ixI k l = i := by rw [ixI, hx]
  rw [hi] at CI
  have hin : i < n := by rw [← hl]; exact (ixf_some hx).1
  obtain ⟨b, off, z0, z1, z2, rfl, hb0, hz, d0, d1, d2⟩ := h1.el3 hin
  have HF : Hid (fnz 3 k l = [z0, z1, z2]) := fnz_some hx hz
  have HS := hid hx
  have e1 : (i : Int) < n := by omega
  have e2 : (0 : Int) ≤ i := by omega
  clear h h1 hb hx hi hl hz
  have HD0 := hid d0
  have HD1 := hid d1
  have HD2 := hid d2
  clear d0 d1 d2
  go_enter Tryz.func24, Tryz.ntmps24
  go_wp2_with fail
  refine CI.out.mono ?_
  rintro e w2 ⟨rfl, hb2⟩
  have HB2 := hid (Below.on HB.out hb2)
  have HK2 := hid (HK.out.on hb2)
  have f0 := HK2.out.fz
  have c0 := HK2.out.cell 0
  have c1 := HK2.out.cell 1
  have c2 := HK2.out.cell 2
  have d0 : w2.cell? ⟨b, off + i * 3, none⟩ = some (.int .i64 z0) := by rw [hb2.cell hb0]; exact HD0.out
  have d1 : w2.cell? ⟨b, off + i * 3 + 1, none⟩ = some (.int .i64 z1) := by rw [hb2.cell hb0]; exact HD1.out
  have d2 : w2.cell? ⟨b, off + i * 3 + 2, none⟩ = some (.int .i64 z2) := by rw [hb2.cell hb0]; exact HD2.out
  clear hb2
  go_wp2
  refine bodyPost_ret (results_cell_row rfl _ _ (w.heap.size + 1) _ _ _ _ rfl (((HK2.out.set 0 _).set 1 _).set 2 _).obj Tryz.underlying67 rfl info_vsize) rfl ?_
  exact ⟨z0, z1, z2, rfl, HF.out, (((HB2.out.setCell (p := ⟨w.heap.size + 1, 0, none⟩) (by show w.heap.size ≤ w.heap.size + 1; omega) _).setCell (p := ⟨w.heap.size + 1, 1, none⟩) (by show w.heap.size ≤ w.heap.size + 1; omega) _).setCell (p := ⟨w.heap.size + 1, 2, none⟩) (by show w.heap.size ≤ w.heap.size + 1; omega) _)⟩
theorem vfind_fn (k : Int) (w : World) (q : Nat) (hq : w.cell? ⟨q, 0, none⟩ = some (.int .i64 k)) (z0 z1 z2 z3 z4 z5 : Int) (u : World) (hu : Below w.heap.size w u) :
  Calls Tryz.prog 33 (#[.agg #[.int .i64 z0, .int .i64 z1, .int .i64 z2, .int .i64 z3, .int .i64 z4, .int .i64 z5]] ++ #[.pointer (some ⟨q, 0, none⟩)]) u fun e w' => e = .returned (.bool (z0 == k)) ∧ Below u.heap.size u w' := by
 have hlt := World.block_lt_of_cell? w _ hq
 have hc : u.cell? ⟨q, 0, none⟩ = some (.int .i64 k) := by rw [hu.cell hlt]; exact hq
 have hb := bel_new u (.cells #[.int .i64 z0, .int .i64 z1, .int .i64 z2, .int .i64 z3, .int .i64 z4, .int .i64 z5] 40)
 have hc2 : (u.alloc (.cells #[.int .i64 z0, .int .i64 z1, .int .i64 z2, .int .i64 z3, .int .i64 z4, .int .i64 z5] 40)).cell? ⟨q, 0, none⟩ = some (.int .i64 k) := by rw [hb.cell (World.block_lt_of_cell? u _ hc)]; exact hc
 have HB := hid hb
 clear hb hu
 go_enter Tryz.func33, Tryz.ntmps33
 go_wp2
 go_ret
 exact ⟨rfl, HB.out⟩
theorem vfind_ix (a : Option Addr) (n c : Nat) (l : List (List Int)) (k : Int) (q : Nat) (w : World) (h : RdM 6 w a n c l) (hq : w.cell? ⟨q, 0, none⟩ = some (.int .i64 k)) :
  Calls Tryz.prog 32 #[.slice a n c, .func (.func 33) #[] #[.pointer (some ⟨q, 0, none⟩)]] w fun e w' => e = .returned (.int .i64 (ixI k l)) ∧ Below w.heap.size w w' := by
 have HL := hid h.len
 have hs := h.small
 have H := hid h
 have HP : Hid (∀ (z0 z1 z2 z3 z4 z5 : Int) (u : World), Below w.heap.size w u → Calls Tryz.prog 33 (#[.agg #[.int .i64 z0, .int .i64 z1, .int .i64 z2, .int .i64 z3, .int .i64 z4, .int .i64 z5]] ++ #[.pointer (some ⟨q, 0, none⟩)]) u fun e w' => e = .returned (.bool (z0 == k)) ∧ Below u.heap.size u w') := fun z0 z1 z2 z3 z4 z5 u hu => vfind_fn k w q hq z0 z1 z2 z3 z4 z5 u hu
 have eg := enters_of Tryz.func33 (by kernel_rfl) rfl
 clear h hq
 go_enter Tryz.func32, Tryz.ntmps32
 go_wp2
 go_loopw [8] (fun i wr => ∃ j : Nat, i = .int .i64 j ∧ j ≤ n ∧ (∀ i y, i < j → l[i]? = some y → hd y ≠ k) ∧ RowKit.Below w.heap.size w wr) (fun i _ => n - (numOf i).toNat)
 case atStart => exact ⟨0, rfl, by omega, fun k r hk => absurd hk (by omega), Below.refl _ _⟩
 case round =>
  obtain ⟨j, rfl, hj, hN, hb⟩ := hrel
  have HN := hid hN
  have HB := hid hb
  clear hN hb
  by_cases hgo : j < n
  ·have e1 : decide ((j : Int) < n) = true := decide_eq_true (by omega)
   obtain ⟨b, off, z0, z1, z2, z3, z4, z5, rfl, _, hr, c0, c1, c2, c3, c4, c5⟩ := (H.out.on HB.out).el6 hgo
   have CP := hid (HP.out z0 z1 z2 z3 z4 z5 wr HB.out)
   have HR := hid hr
   have e3 : (j : Int) < n := by omega
   clear hr
   cases hq : (z0 == k)
   ·rw [hq] at CP
    have HN2 : Hid (∀ i x, i < j + 1 → l[i]? = some x → hd x ≠ k) := fun i x hi hx => by
     rcases Nat.lt_or_ge i j with h | h
     ·exact HN.out i x h hx
     ·obtain rfl : i = j := by omega
      rw [HR.out] at hx
      cases hx
      show z0 ≠ k
      simpa using hq
    clear hq
    go_wp2_with fail
    refine CP.out.mono ?_
    rintro e w2 ⟨rfl, hb2⟩
    have HB2 := hid (Below.on HB.out hb2)
    clear hb2
    go_wp2
    go_roundw
    case rel => exact ⟨j + 1, by go_num, by omega, HN2.out, HB2.out⟩
    case measure => simp [numOf]; omega
   ·rw [hq] at CP
    have HI : Hid (ixI k l = j) := by
     rw [Hid, ixI, ixf_drop HN.out, drop_at' HR.out, ixf, if_pos (show hd [z0, z1, z2, z3, z4, z5] = k from (show z0 = k by simpa using hq))]
     simp
    clear hq
    go_wp2_with fail
    refine CP.out.mono ?_
    rintro e w2 ⟨rfl, hb2⟩
    have HB2 := hid (Below.on HB.out hb2)
    clear hb2
    go_wp2
    go_ret
    rw [HI.out]
    exact ⟨rfl, HB2.out⟩
  ·have e1 : decide ((j : Int) < n) = false := decide_eq_false (by omega)
   have HI : Hid (ixI k l = -1) := by
    rw [Hid, ixI, ixf_drop HN.out, List.drop_eq_nil_of_le (by rw [HL.out]; omega)]
    rfl
   go_wp2
   go_ret
   rw [HI.out]
   exact ⟨rfl, HB.out⟩
theorem info_vfind : (Tryz.prog.info? 40).map (·.size) = some 6 := by kernel_rfl
theorem vfind_any (a : Option Addr) (n c : Nat) (l : List (List Int)) (k : Int) (w : World) (h : RdM 6 w a n c l) :
  Calls Tryz.prog 15 #[.slice a n c, .int .i64 k] w fun e w' => ∃ z0 z1 z2 z3 z4 z5, e = .returned (.tuple #[.agg #[.int .i64 z0, .int .i64 z1, .int .i64 z2, .int .i64 z3, .int .i64 z4, .int .i64 z5], .bool (fnd k l).isSome]) ∧ fnz 6 k l = [z0, z1, z2, z3, z4, z5] ∧ Below w.heap.size w w' := by
 have hs := h.small
 have hl := h.len
 have hb0 := bel_new w (.cells #[.int .i64 k] 3)
 have hb := Below.on hb0 (bel_new _ (.cells #[.int .i64 0, .int .i64 0, .int .i64 0, .int .i64 0, .int .i64 0, .int .i64 0] 40))
 have h1 := h.on hb
 have HQ := ((bk_new w #[.int .i64 k] 3).on (bel_new _ (.cells #[.int .i64 0, .int .i64 0, .int .i64 0, .int .i64 0, .int .i64 0, .int .i64 0] 40))).cell 0
 have CI := hid (vfind_ix a n c l k w.heap.size _ h1 HQ)
 have HK : Hid (Bk ((w.alloc (.cells #[.int .i64 k] 3)).alloc (.cells #[.int .i64 0, .int .i64 0, .int .i64 0, .int .i64 0, .int .i64 0, .int .i64 0] 40)) (w.heap.size + 1) 40 #[.int .i64 0, .int .i64 0, .int .i64 0, .int .i64 0, .int .i64 0, .int .i64 0]) := by
  have := bk_new (w.alloc (.cells #[.int .i64 k] 3)) #[.int .i64 0, .int .i64 0, .int .i64 0, .int .i64 0, .int .i64 0, .int .i64 0] 40
  rwa [size_new] at this
 have HB := hid hb
 clear HQ hb0
 cases hx : ixf k l with
 | none =>
  have hi : ixI k l = -1 := by rw [ixI, hx]
  rw [hi] at CI
  have HF : Hid (fnz 6 k l = [0, 0, 0, 0, 0, 0]) := fnz_none hx
  have HS : Hid ((fnd k l).isSome = false) := by rw [Hid, (ixf_none hx).2]; rfl
  clear h h1 hb hx hi hl
  go_enter Tryz.func15, Tryz.ntmps15
  go_wp2_with fail
  refine CI.out.mono ?_
  rintro e w2 ⟨rfl, hb2⟩
  have HB2 := hid (Below.on HB.out hb2)
  have HK2 := hid (HK.out.on hb2)
  have f0 := HK2.out.fz
  have c0 := HK2.out.cell 0
  have c1 := HK2.out.cell 1
  have c2 := HK2.out.cell 2
  have c3 := HK2.out.cell 3
  have c4 := HK2.out.cell 4
  have c5 := HK2.out.cell 5
  clear hb2
  go_wp2
  refine bodyPost_ret (results_cell_tmp' rfl _ _ (w.heap.size + 1) _ _ _ _ rfl ((((((HK2.out.set 0 _).set 1 _).set 2 _).set 3 _).set 4 _).set 5 _).obj Tryz.underlying40 rfl info_vfind) rfl ?_
  exact ⟨0, 0, 0, 0, 0, 0, (by rw [HS.out]; rfl), HF.out, ((((((HB2.out.setCell (p := ⟨w.heap.size + 1, 0, none⟩) (by show w.heap.size ≤ w.heap.size + 1; omega) _).setCell (p := ⟨w.heap.size + 1, 1, none⟩) (by show w.heap.size ≤ w.heap.size + 1; omega) _).setCell (p := ⟨w.heap.size + 1, 2, none⟩) (by show w.heap.size ≤ w.heap.size + 1; omega) _).setCell (p := ⟨w.heap.size + 1, 3, none⟩) (by show w.heap.size ≤ w.heap.size + 1; omega) _).setCell (p := ⟨w.heap.size + 1, 4, none⟩) (by show w.heap.size ≤ w.heap.size + 1; omega) _).setCell (p := ⟨w.heap.size + 1, 5, none⟩) (by show w.heap.size ≤ w.heap.size + 1; omega) _)⟩
 | some i =>
  have hi : ixI k l = i := by rw [ixI, hx]
  rw [hi] at CI
  have hin : i < n := by rw [← hl]; exact (ixf_some hx).1
  obtain ⟨b, off, z0, z1, z2, z3, z4, z5, rfl, hb0, hz, d0, d1, d2, d3, d4, d5⟩ := h1.el6 hin
  have HF : Hid (fnz 6 k l = [z0, z1, z2, z3, z4, z5]) := fnz_some hx hz
  have HS : Hid ((fnd k l).isSome = true) := by rw [Hid, (ixf_some hx).2.1, hz]; rfl
  have e1 : (i : Int) < n := by omega
  have e2 : (0 : Int) ≤ i := by omega
  clear h h1 hb hx hi hl hz
  have HD0 := hid d0
  have HD1 := hid d1
  have HD2 := hid d2
  have HD3 := hid d3
  have HD4 := hid d4
  have HD5 := hid d5
  clear d0 d1 d2 d3 d4 d5
  go_enter Tryz.func15, Tryz.ntmps15
  go_wp2_with fail
  refine CI.out.mono ?_
  rintro e w2 ⟨rfl, hb2⟩
  have HB2 := hid (Below.on HB.out hb2)
  have HK2 := hid (HK.out.on hb2)
  have f0 := HK2.out.fz
  have c0 := HK2.out.cell 0
  have c1 := HK2.out.cell 1
  have c2 := HK2.out.cell 2
  have c3 := HK2.out.cell 3
  have c4 := HK2.out.cell 4
  have c5 := HK2.out.cell 5
  have d0 : w2.cell? ⟨b, off + i * 6, none⟩ = some (.int .i64 z0) := by rw [hb2.cell hb0]; exact HD0.out
  have d1 : w2.cell? ⟨b, off + i * 6 + 1, none⟩ = some (.int .i64 z1) := by rw [hb2.cell hb0]; exact HD1.out
  have d2 : w2.cell? ⟨b, off + i * 6 + 2, none⟩ = some (.int .i64 z2) := by rw [hb2.cell hb0]; exact HD2.out
  have d3 : w2.cell? ⟨b, off + i * 6 + 3, none⟩ = some (.int .i64 z3) := by rw [hb2.cell hb0]; exact HD3.out
  have d4 : w2.cell? ⟨b, off + i * 6 + 4, none⟩ = some (.int .i64 z4) := by rw [hb2.cell hb0]; exact HD4.out
  have d5 : w2.cell? ⟨b, off + i * 6 + 5, none⟩ = some (.int .i64 z5) := by rw [hb2.cell hb0]; exact HD5.out
  clear hb2
  go_wp2
  refine bodyPost_ret (results_cell_tmp' rfl _ _ (w.heap.size + 1) _ _ _ _ rfl ((((((HK2.out.set 0 _).set 1 _).set 2 _).set 3 _).set 4 _).set 5 _).obj Tryz.underlying40 rfl info_vfind) rfl ?_
  exact ⟨z0, z1, z2, z3, z4, z5, (by rw [HS.out]; rfl), HF.out, ((((((HB2.out.setCell (p := ⟨w.heap.size + 1, 0, none⟩) (by show w.heap.size ≤ w.heap.size + 1; omega) _).setCell (p := ⟨w.heap.size + 1, 1, none⟩) (by show w.heap.size ≤ w.heap.size + 1; omega) _).setCell (p := ⟨w.heap.size + 1, 2, none⟩) (by show w.heap.size ≤ w.heap.size + 1; omega) _).setCell (p := ⟨w.heap.size + 1, 3, none⟩) (by show w.heap.size ≤ w.heap.size + 1; omega) _).setCell (p := ⟨w.heap.size + 1, 4, none⟩) (by show w.heap.size ≤ w.heap.size + 1; omega) _).setCell (p := ⟨w.heap.size + 1, 5, none⟩) (by show w.heap.size ≤ w.heap.size + 1; omega) _)⟩
end
section
theorem rdm_lit {m : Nat} (w : World) (y : List Int) (hy : y.length = m) (T : Nat) : RdM m (w.alloc (.cells (y.map (Value.int .i64)).toArray T)) (some ⟨w.heap.size, 0, none⟩) 1 1 [y] :=
 ⟨rfl, Nat.le_refl _, by simp [maxLen], (fun h => by cases h), fun _ => ⟨w.heap.size, 0, rfl, by simp, fun j y' hj i z hz => by
  match j, hj with
  | 0, hj =>
   cases hj
   rw [Nat.zero_mul, Nat.zero_add, Nat.zero_add, Lib.cell_of_heap (heap_alloc_new w _), List.getElem?_toArray, List.getElem?_map, hz]
   rfl
  | j + 1, hj => simp at hj⟩, by simp [hy]⟩
structure C3 (u : World) (b o : Nat) (z0 z1 z2 : Int) : Prop where
 lt : b < u.heap.size
 c0 : u.cell? ⟨b, o, none⟩ = some (.int .i64 z0)
 c1 : u.cell? ⟨b, o + 1, none⟩ = some (.int .i64 z1)
 c2 : u.cell? ⟨b, o + 2, none⟩ = some (.int .i64 z2)
theorem C3.on {u v : World} {b o : Nat} {z0 z1 z2 : Int} (h : C3 u b o z0 z1 z2) (hb : Below u.heap.size u v) : C3 v b o z0 z1 z2 :=
 ⟨Nat.lt_of_lt_of_le h.lt hb.size, by rw [hb.cell h.lt]; exact h.c0, by rw [hb.cell h.lt]; exact h.c1, by rw [hb.cell h.lt]; exact h.c2⟩
theorem C3.kp {X : List Nat} {u v : World} {b o : Nat} {z0 z1 z2 : Int} (h : C3 u b o z0 z1 z2) (hk : Kp X u v) (hb : b ∉ X) : C3 v b o z0 z1 z2 :=
 ⟨Nat.lt_of_lt_of_le h.lt hk.size, hk.cell h.c0 hb, hk.cell h.c1 hb, hk.cell h.c2 hb⟩
theorem info_s : (Tryz.prog.info? 67).map (fun i => (i.zero, i.size, i.bytes)) = some (some (.agg #[.int .i64 0, .int .i64 0, .int .i64 0]), 3, 24) := by kernel_rfl
theorem take_one {α : Type} {l : List α} {j : Nat} {y : α} (h : l[j]? = some y) : l.take (j + 1) = l.take j ++ [y] := by rw [List.take_add_one, h]; rfl
theorem sizes_any (a : Option Addr) (n c : Nat) (zs : List (List Int)) (w : World) (h : RdM 3 w a n c zs) (hn : n ≤ 30) :
  Calls Tryz.prog 9 #[.slice a n c] w fun e w' => ∃ v, e = .returned v ∧ OwM 3 67 w w' v zs := by
 obtain ⟨i0, hi, hz0, hz1, hz2⟩ := infoMP info_s
 have HL := hid h.len
 have H := hid h
 clear h
 go_enter Tryz.func9, Tryz.ntmps9
 go_wp2
 go_loopw [3, 4] (fun v i wr => ∃ j : Nat, i = .int .i64 j ∧ j ≤ n ∧ OwM 3 67 w wr v (zs.take j)) (fun _ i _ => n - (numOf i).toNat)
 case atStart => exact ⟨0, rfl, by omega, OwM.nil _ _ _⟩
 case round =>
  obtain ⟨j, rfl, hj, hO⟩ := hrel
  obtain ⟨P0, hP⟩ : ∃ P0, P0 = zs.take j := ⟨_, rfl⟩
  rw [← hP] at hO
  have hlen : P0.length ≤ 30 := by rw [hP, List.length_take]; omega
  have HO := hid hO
  have HP := hid hP
  obtain ⟨a0, c0, rfl, -, -⟩ := hO.rd
  clear hO hP
  by_cases hgo : j < n
  ·have e1 : decide ((j : Int) < n) = true := decide_eq_true (by omega)
   have e2 : (j : Int) < n := by omega
   obtain ⟨b, off, z0, z1, z2, rfl, hb, hr, c0, c1, c2⟩ := H.out.el3 hgo
   have hC : C3 wr.drew b (off + j * 3) z0 z1 z2 := (C3.on ⟨hb, c0, c1, c2⟩ (HO.out.bel)).on (Below.refl _ _).drew
   have hO0 : OwM 3 67 w wr.drew _ P0 := HO.out.on (Below.refl _ _).drew
   have HR := hid hr
   clear hr c0 c1 c2
   go_wp2
   refine wp_region_held_drew (S := fun u => C3 u b (off + j * 3) z0 z1 z2) (by kernel_rfl) ?hh (fun hHeld => ?_)
   case hh => exact (hC)
   refine wpAnyH_take (i := 0) (v := ?_) rfl (by kernel_rfl) (by kernel_rfl) (by kernel_rfl) (fun _ _ _ h => h) (Or.inl ⟨by kernel_rfl, ?hy0⟩) (by assumption) ?_
   case hy0 => (intro w hSw; (try dsimp only at hSw); obtain ⟨_, f0, f1, f2⟩ := hSw; go_simp; try with_reducible rfl)
   try simp only [Act.put, lqA, lqB, lqD, lqE, lqF]
   refine wpAnyH_take (i := 1) (v := ?_) rfl (by kernel_rfl) (by kernel_rfl) (by kernel_rfl) (fun _ _ _ h => h) (Or.inl ⟨by kernel_rfl, ?hy1⟩) (by assumption) ?_
   case hy1 => (intro w hSw; (try dsimp only at hSw); obtain ⟨_, f0, f1, f2⟩ := hSw; go_simp; try with_reducible rfl)
   try simp only [Act.put, lqA, lqB, lqC, lqD, lqE, lqF]
   refine wpAnyH_take (i := 2) (v := ?_) rfl (by kernel_rfl) (by kernel_rfl) (by kernel_rfl) (fun _ _ _ h => h) (Or.inl ⟨by kernel_rfl, ?hy2⟩) (by assumption) ?_
   case hy2 => (intro w hSw; (try dsimp only at hSw); obtain ⟨_, f0, f1, f2⟩ := hSw; go_simp; try with_reducible rfl)
   try simp only [Act.put, lqA, lqB, lqC, lqD, lqE, lqF]
   refine wpAnyH_take (i := 3) (v := ?_) rfl (by kernel_rfl) (by kernel_rfl) (by kernel_rfl) (fun _ _ _ h => h) (Or.inl ⟨by kernel_rfl, ?hy3⟩) (by assumption) ?_
   case hy3 => (intro w hSw; (try dsimp only at hSw); obtain ⟨_, f0, f1, f2⟩ := hSw; go_simp; try with_reducible rfl)
   try simp only [Act.put, lqA, lqB, lqC, lqD, lqE, lqF]
   refine wpAnyH_take (i := 4) (v := ?_) rfl (by kernel_rfl) (by kernel_rfl) (by kernel_rfl) (fun _ _ _ h => h) (Or.inl ⟨by kernel_rfl, ?hy4⟩) (by assumption) ?_
   case hy4 => (intro w hSw; (try dsimp only at hSw); obtain ⟨_, f0, f1, f2⟩ := hSw; go_simp; try with_reducible rfl)
   try simp only [Act.put, lqA, lqB, lqC, lqD, lqE, lqF]
   refine wpAnyH_take (i := 5) (v := ?_) rfl (by kernel_rfl) (by kernel_rfl) (by kernel_rfl) (fun _ _ _ h => h) (Or.inl ⟨by kernel_rfl, ?hy5⟩) (by assumption) ?_
   case hy5 => (intro w hSw; (try dsimp only at hSw); obtain ⟨_, f0, f1, f2⟩ := hSw; go_simp; try with_reducible rfl)
   try simp only [Act.put, lqA, lqB, lqC, lqD, lqE, lqF]
   refine wpAnyH_take (i := 6) (v := ?_) rfl (by kernel_rfl) (by kernel_rfl) (by kernel_rfl) (fun _ _ _ h => h) (Or.inl ⟨by kernel_rfl, ?hy6⟩) (by assumption) ?_
   case hy6 => (intro w hSw; (try dsimp only at hSw); obtain ⟨_, f0, f1, f2⟩ := hSw; go_simp; try with_reducible rfl)
   try simp only [Act.put, lqA, lqB, lqC, lqD, lqE, lqF]
   refine wpAnyH_take (i := 7) (v := ?_) rfl (by kernel_rfl) (by kernel_rfl) (by kernel_rfl) (fun _ _ _ h => h) (Or.inl ⟨by kernel_rfl, ?hy7⟩) (by assumption) ?_
   case hy7 => (intro w hSw; (try dsimp only at hSw); obtain ⟨_, f0, f1, f2⟩ := hSw; go_simp; try with_reducible rfl)
   try simp only [Act.put, lqA, lqB, lqC, lqD, lqE, lqF]
   refine wpAnyH_take (i := 8) (v := ?_) rfl (by kernel_rfl) (by kernel_rfl) (by kernel_rfl) (fun _ _ _ h => h) (Or.inl ⟨by kernel_rfl, ?hy8⟩) (by assumption) ?_
   case hy8 => (intro w hSw; (try dsimp only at hSw); obtain ⟨_, f0, f1, f2⟩ := hSw; go_simp; try with_reducible rfl)
   try simp only [Act.put, lqA, lqB, lqC, lqD, lqE, lqF]
   refine wpAnyH_take (i := 9) (v := ?_) rfl (by kernel_rfl) (by kernel_rfl) (by kernel_rfl) (fun _ _ _ h => h) (Or.inl ⟨by kernel_rfl, ?hy9⟩) (by assumption) ?_
   case hy9 => (intro w hSw; (try dsimp only at hSw); obtain ⟨_, f0, f1, f2⟩ := hSw; go_simp; try with_reducible rfl)
   try simp only [Act.put, lqA, lqB, lqC, lqD, lqE, lqF]
   refine wpAnyH_take (i := 10) (v := ?_) rfl (by kernel_rfl) (by kernel_rfl) (by kernel_rfl) (fun _ _ _ h => h) (Or.inl ⟨by kernel_rfl, ?hy10⟩) (by assumption) ?_
   case hy10 => (intro w hSw; (try dsimp only at hSw); obtain ⟨_, f0, f1, f2⟩ := hSw; go_simp; try with_reducible rfl)
   try simp only [Act.put, lqA, lqB, lqC, lqD, lqE, lqF]
   refine wpAnyH_take (i := 11) (v := ?_) rfl (by kernel_rfl) (by kernel_rfl) (by kernel_rfl) (fun _ _ _ h => h) (Or.inl ⟨by kernel_rfl, ?hy11⟩) (by assumption) ?_
   case hy11 => (intro w hSw; (try dsimp only at hSw); obtain ⟨_, f0, f1, f2⟩ := hSw; go_simp; try with_reducible rfl)
   try simp only [Act.put, lqA, lqB, lqC, lqD, lqE, lqF]
   refine wpAnyH_take (i := 12) (v := ?_) rfl (by kernel_rfl) (by kernel_rfl) (by kernel_rfl) (fun _ _ _ h => h) (Or.inl ⟨by kernel_rfl, ?hy12⟩) (by assumption) ?_
   case hy12 => (intro w hSw; (try dsimp only at hSw); obtain ⟨_, f0, f1, f2⟩ := hSw; go_simp; try with_reducible rfl)
   try simp only [Act.put, lqA, lqB, lqC, lqD, lqE, lqF]
   refine wpAnyH_take (i := 13) (v := ?_) rfl (by kernel_rfl) (by kernel_rfl) (by kernel_rfl) (fun _ _ _ h => h) (Or.inl ⟨by kernel_rfl, ?hy13⟩) (by assumption) ?_
   case hy13 => (intro w hSw; (try dsimp only at hSw); obtain ⟨_, f0, f1, f2⟩ := hSw; go_simp; try with_reducible rfl)
   try simp only [Act.put, lqA, lqB, lqC, lqD, lqE, lqF]
   refine wpAnyH_take (i := 14) (v := ?_) rfl (by kernel_rfl) (by kernel_rfl) (by kernel_rfl) (fun _ _ _ h => h) (Or.inl ⟨by kernel_rfl, ?hy14⟩) (by assumption) ?_
   case hy14 => (intro w hSw; (try dsimp only at hSw); obtain ⟨_, f0, f1, f2⟩ := hSw; go_simp; try with_reducible rfl)
   try simp only [Act.put, lqA, lqB, lqC, lqD, lqE, lqF]
   refine wpAnyH_take (i := 15) (v := ?_) rfl (by kernel_rfl) (by kernel_rfl) (by kernel_rfl) (fun _ _ _ h => h) (Or.inl ⟨by kernel_rfl, ?hy15⟩) (by assumption) ?_
   case hy15 => (intro w hSw; (try dsimp only at hSw); obtain ⟨_, f0, f1, f2⟩ := hSw; go_simp; try with_reducible rfl)
   try simp only [Act.put, lqA, lqB, lqC, lqD, lqE, lqF]
   refine wpAnyH_take (i := 16) (v := ?_) rfl (by kernel_rfl) (by kernel_rfl) (by kernel_rfl) (fun _ _ _ h => h) (Or.inl ⟨by kernel_rfl, ?hy16⟩) (by assumption) ?_
   case hy16 => (intro w hSw; (try dsimp only at hSw); obtain ⟨_, f0, f1, f2⟩ := hSw; go_simp; try with_reducible rfl)
   try simp only [Act.put, lqA, lqB, lqC, lqD, lqE, lqF]
   refine wpAnyH_ready (rs := [17]) (by kernel_rfl) (by simp) ?_
   refine AllReadyH.cons rfl (fun K hK => ?_) AllReadyH.nil
   generalize wr.drew = V0 at hC hO0 hHeld hK ⊢
   have hbl := bel_new V0 (.cells #[.int .i64 z0, .int .i64 z1, .int .i64 z2] 67)
   have hO1 := hO0.on hbl
   have hC1 := hHeld.on hbl
   have hsr := (rdm_lit V0 [z0, z1, z2] rfl 67).src (P := Tryz.prog) (t := 32) (e := 67) Tryz.underlying32
   go_simp
   refine hK.out _ _ hC1 (fun _ => ?_)
   clear hK K hHeld hO0 hC hbl
   have hHeld := hC1
   clear hC1
   refine wpAnyH_ready (rs := [18]) (by kernel_rfl) (by simp) ?_
   refine AllReadyH.cons rfl (fun K hK => ?_) AllReadyH.nil
   refine step_appP _ (by kernel_rfl) (.tmp 11) (.tmp 28) 32 32 rfl w.heap.size 67 i0 (.agg #[.int .i64 0, .int .i64 0, .int .i64 0]) 3 24 Tryz.underlying32 hi hz0 hz1 hz2 rfl _ _ _ rfl hO1.own _ _ _ rfl hsr (by simp only [maxLen]; omega) (fitsM (by omega) (by decide)) hO1.bel.size ?_
   intro v4 w4 o4 g4 _
   replace g4 : World.grownBy _ w4 (Value.slice a0 P0.length c0).ownBlock := g4
   have hC4 := hHeld.kp (kp_of_grown g4) (fun hm => by have h1 := (hO1.own.lt b (by simpa using hm)).1; omega)
   refine hK.out _ _ hC4 (fun _ => ?_)
   clear hK K hHeld
   refine wpAnyH_take (i := 19) (v := ?_) rfl (by kernel_rfl) (by kernel_rfl) (by kernel_rfl) (fun _ _ _ h => h) (Or.inl ⟨by kernel_rfl, ?hy19⟩) (by assumption) ?_
   case hy19 => (intro w hSw; (try dsimp only at hSw); obtain ⟨_, f0, f1, f2⟩ := hSw; go_simp; try with_reducible rfl)
   try simp only [Act.put, lqA, lqB, lqC, lqD, lqE, lqF]
   refine wpAnyH_done (by kernel_rfl) ?_ _
   have HO2 : Hid (OwM 3 67 w w4 v4 (zs.take (j + 1))) := by
    rw [take_one HR.out, ← HP.out]
    exact hO1.grown (k := [[z0, z1, z2]]) (by simp) o4 g4
   clear o4 g4 hO1 hsr hC4
   go_wp2
   go_roundw
   case rel => exact ⟨j + 1, by go_num, by omega, HO2.out⟩
   case measure => simp [numOf]; omega
  ·have e1 : decide ((j : Int) < n) = false := decide_eq_false (by omega)
   have HE : Hid (P0 = zs) := HP.out.trans <| List.take_of_length_le (by rw [HL.out]; omega)
   go_wp2
   go_ret
   exact ⟨_, rfl, by rw [← HE.out]; exact HO.out⟩
end
section
structure Itr (D : Nat) (w w' : World) : Prop where
 os : w'.os = w.os
 tape : w'.tape = w.tape
 output : w'.output = w.output
 size : w.heap.size ≤ w'.heap.size
 block : ∀ k o, w.heap[k]? = some o → (k < D ∨ o.isCells = true) → w'.heap[k]? = some o
theorem Itr.mono {D D' : Nat} {w w1 : World} (h : Itr D w w1) (hD : D' ≤ D) : Itr D' w w1 :=
 ⟨h.os, h.tape, h.output, h.size, fun k o ho hk => h.block k o ho (hk.elim (fun h => .inl (by omega)) .inr)⟩
theorem itr_of_below {w w' : World} (h : Below w.heap.size w w') (D : Nat) : Itr D w w' :=
 ⟨h.os, h.tape, h.output, h.size, fun k _ ho _ => (h.block k (Array.getElem?_eq_some_iff.1 ho).1).trans ho⟩
theorem itr_put {D : Nat} (w : World) (k : Nat) (o o' : Obj) (hk : D ≤ k) (ho : w.heap[k]? = some o) (hc : o.isCells = false) : Itr D w (w.putObj k o') :=
 ⟨rfl, rfl, rfl, by simp, fun j oj hj hD => by
  have : j ≠ k := fun e => by
   rw [e, ho] at hj
   cases hj
   rcases hD with h | h
   ·omega
   ·rw [hc] at h; cases h
  rw [World.putObj_heap_other this]
  exact hj⟩
theorem Itr.below {D : Nat} {w w' : World} (h : Itr D w w') (hD : D ≤ w.heap.size) : Below D w w' :=
 ⟨h.os, h.tape, h.output, h.size, fun k hk => by
  have : w.heap[k]? = some w.heap[k] := Array.getElem?_eq_getElem (by omega)
  rw [this]
  exact h.block k _ this (.inl hk)⟩
theorem Itr.cell {D : Nat} {w w' : World} (h : Itr D w w') {a : Addr} {v : Value} (hc : w.cell? a = some v) : w'.cell? a = some v := by
 cases ho : w.heap[a.block]? with
 | none => simp [World.cell?, ho] at hc
 | some o =>
  have hk : o.isCells = true := by
   rw [World.cell?, ho] at hc
   cases o <;> simp_all [Obj.isCells]
  rw [← hc]
  simp only [World.cell?, h.block _ _ ho (.inr hk), ho]
theorem Itr.obj {D : Nat} {w w' : World} (h : Itr D w w') {k : Nat} {c : Array Value} {T : TypeId} {f : Nat × Nat} (hc : w.heap[k]? = some (.cells c T f)) : w'.heap[k]? = some (.cells c T f) := h.block k _ hc (.inr rfl)
theorem Itr.row {D : Nat} {w w' : World} (h : Itr D w w') {base e size n : Nat} {v : Value} {xs : List Value} (ho : w.ownsRow base e size v n xs) : w'.ownsRow base e size v n xs := by
 refine ⟨ho.1, ?_⟩
 rcases ho.2 with q | ⟨g, cap, cur, rfl, e2, e3, e4⟩
 ·exact .inl q
 ·exact .inr ⟨g, cap, cur, rfl, e2, h.obj e3, e4⟩
structure Rnd (D : Nat) (X : List Nat) (w w' : World) : Prop where
 size : w.heap.size ≤ w'.heap.size
 block : ∀ k, D ≤ k → k < w.heap.size → k ∉ X → w'.heap[k]? = w.heap[k]?
theorem Rnd.refl (D : Nat) (X : List Nat) (w : World) : Rnd D X w w := ⟨Nat.le_refl _, fun _ _ _ _ => rfl⟩
theorem Rnd.trans {D : Nat} {X Y : List Nat} {w w1 w2 : World} (h : Rnd D X w w1) (h1 : Rnd D Y w1 w2) (hY : ∀ k ∈ Y, k ∈ X ∨ w.heap.size ≤ k) : Rnd D X w w2 :=
 ⟨Nat.le_trans h.size h1.size, fun k hD hk hX => (h1.block k hD (Nat.lt_of_lt_of_le hk h.size) (fun hm => (hY k hm).elim hX (fun h => by omega))).trans (h.block k hD hk hX)⟩
theorem Rnd.then {D : Nat} {X : List Nat} {w w1 w2 : World} (h : Rnd D X w w1) (h1 : Rnd D X w1 w2) : Rnd D X w w2 := h.trans h1 fun _ hk => .inl hk
theorem Rnd.mono {D D' : Nat} {X : List Nat} {w w' : World} (h : Rnd D X w w') (hD : D ≤ D') : Rnd D' X w w' := ⟨h.size, fun k hk => h.block k (by omega)⟩
theorem Rnd.at_ {D : Nat} {X : List Nat} {w w' : World} (h : Rnd D X w w') {k : Nat} {o : Obj} (hD : D ≤ k) (hk : k ∉ X) (ho : w.heap[k]? = some o) : w'.heap[k]? = some o := (h.block k hD (Array.getElem?_eq_some_iff.1 ho).1 hk).trans ho
theorem rnd_below {w w' : World} (h : Below w.heap.size w w') (D : Nat) (X : List Nat) : Rnd D X w w' := ⟨h.size, fun k _ hk _ => h.block k hk⟩
theorem rnd_put {D : Nat} {X : List Nat} (w : World) (k : Nat) (o : Obj) (hk : k < D) : Rnd D X w (w.putObj k o) := ⟨by simp, fun j hj _ _ => World.putObj_heap_other (by omega)⟩
theorem Rnd.set {D : Nat} {X : List Nat} {w w' : World} (h : Rnd D X w w') {j : Nat} (hj : j < D ∨ j ∈ X ∨ w.heap.size ≤ j) (o : Nat) (v : Value) : Rnd D X w (w'.setCell ⟨j, o, none⟩ v) :=
 ⟨by simpa [World.setCell] using h.size, fun k hD hk hX => by
  rw [heap_setCell_other _ _ _ _ (fun e => by
   subst e
   rcases hj with h1 | h1 | h1
   ·omega
   ·exact hX h1
   ·omega)]
  exact h.block k hD hk hX⟩
variable {α : Type} {P : Program}
def rndC (B : Nat) (X : List Nat) (n0 : Nat) (I : List Nat → World → Prop) (Ix : Code → World → Prop) (W : World) : Exit → Act → World → Prop
 | .normal, _, W' => Rnd B X W W' ∧ ∃ X', (∀ q ∈ X', q ∈ X ∨ n0 ≤ q) ∧ I X' W'
 | .ret, _, W' => Rnd B X W W' ∧ Ix .ret W'
 | .exit id, _, W' => Rnd B X W W' ∧ Ix (.exit id) W'
 | .goto t, _, W' => Rnd B X W W' ∧ Ix (.goto t) W'
 | _, _, _ => False
end
end Go.Proofs.YtkjempffidndeaaGreatDoor
