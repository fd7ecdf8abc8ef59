/- Lemmas that the proof leans on. -/
import Derived.Test.YtkjempffidndeaaGreatDoorB18
namespace Go.Proofs.YtkjempffidndeaaGreatDoor
open Go Go.RowKit
set_option maxRecDepth 100000
set_option maxHeartbeats 1000000
section
structure Dm {α : Type} (p : α → Bool) (l L : List α) (i j : Nat) : Prop where
 len : L.length = l.length
 ij : i < j
 fst : L.take i = (l.take j).filter fun r => !p r
 snd : L.drop j = l.drop j
section
variable {α : Type} {p : α → Bool} {l L : List α} {i j : Nat}
theorem Dm.skip (h : Dm p l L i j) {r : α} (hr : l[j]? = some r) (he : p r = true) : Dm p l L i (j + 1) := by
 refine ⟨h.len, by have := h.ij; omega, ?_, ?_⟩
 ·rw [h.fst, List.take_add_one, hr, List.filter_append]
  simp [he]
 ·have := congrArg List.tail h.snd
  simpa using this
theorem Dm.keep (h : Dm p l L i j) {r : α} (hr : l[j]? = some r) (he : p r = false) : Dm p l (L.set i r) (i + 1) (j + 1) := by
 have hij := h.ij
 have hj : j < l.length := (List.getElem?_eq_some_iff.1 hr).1
 have hl := h.len
 refine ⟨by rw [List.length_set]; exact hl, by omega, ?_, ?_⟩
 ·have e : (L.set i r).take (i + 1) = L.take i ++ [r] := by
   rw [List.take_add_one, List.take_set_of_le (Nat.le_refl _), List.getElem?_set_self (by omega)]
   rfl
  rw [e, h.fst, List.take_add_one, hr, List.filter_append]
  simp [he]
 ·rw [List.drop_set_of_lt (by omega)]
  have := congrArg List.tail h.snd
  simpa using this
end
theorem Dm.start {k : Int} {l : List (List Int)} {i : Nat} (h : ixf k l = some i) : Dm (fun y => hd y == k) l l i (i + 1) ∧ i < l.length := by
 have hw : ∀ (l : List (List Int)) (i : Nat), ixf k l = some i → ∃ y, l[i]? = some y ∧ hd y = k ∧ ∀ (j : Nat) z, j < i → l[j]? = some z → hd z ≠ k := by
  intro l
  induction l with
  | nil => intro i h; cases h
  | cons x l ih =>
   intro i h
   rw [ixf] at h
   split at h
   ·rename_i hx
    cases h
    exact ⟨x, rfl, hx, fun j z hj => absurd hj (by omega)⟩
   ·rename_i hx
    obtain ⟨m, hm, rfl⟩ := Option.map_eq_some_iff.1 h
    obtain ⟨y, h1, h2, h3⟩ := ih m hm
    refine ⟨y, by simpa using h1, h2, fun j z hj hz => ?_⟩
    cases j with
    | zero => simp at hz; subst hz; exact hx
    | succ j => exact h3 j z (by omega) (by simpa using hz)
 obtain ⟨y, h1, h2, h3⟩ := hw l i h
 refine ⟨⟨rfl, by omega, ?_, rfl⟩, (List.getElem?_eq_some_iff.1 h1).1⟩
 rw [List.take_add_one, h1, List.filter_append]
 have : (l.take i).filter (fun y => !(hd y == k)) = l.take i := List.filter_eq_self.2 fun x hx => by
  obtain ⟨j, hj⟩ := List.mem_iff_getElem?.1 hx
  have hji : j < i := by
   have := (List.getElem?_eq_some_iff.1 hj).1
   rw [List.length_take] at this
   omega
  rw [List.getElem?_take_of_lt hji] at hj
  simpa using h3 j x hji hj
 rw [this]
 simp [h2]
theorem outL_eq (k : Int) (l : List (List Int)) : outL k l = l.filter fun y => !(hd y == k) := rfl
theorem outL_none {k : Int} {l : List (List Int)} (h : ixf k l = none) : outL k l = l := List.filter_eq_self.2 fun y hy => by simpa using (ixf_none h).1 y hy
structure Rw (base : Nat) (u0 u : World) (g n c : Nat) (l : List (List Int)) : Prop where
 own : u.ownsRow base 46 3 (.slice (some ⟨g, 0, none⟩) n c) n (mcs l)
 kp : Kp [g] u0 u
 size : ∀ y ∈ l, y.length = 3
 len : l.length = n
variable {base : Nat} {u0 u u' : World} {g n c : Nat} {l : List (List Int)}
theorem Rw.on (h : Rw base u0 u g n c l) (hb : Below u.heap.size u u') : Rw base u0 u' g n c l := ⟨ownsRow_below h.own hb, h.kp.trans (kp_of_below hb [g]) (fun _ hk _ => hk), h.size, h.len⟩
theorem mcs_st3 {l : List (List Int)} (hs : ∀ y ∈ l, y.length = 3) {j : Nat} (hj : j < l.length) (z0 z1 z2 : Int) : mcs (l.set j [z0, z1, z2]) = (((mcs l).set (j * 3) (.int .i64 z0)).set (j * 3 + 1) (.int .i64 z1)).set (j * 3 + 2) (.int .i64 z2) := by
 induction l generalizing j with
 | nil => simp at hj
 | cons x l ih =>
  match x, hs x List.mem_cons_self with
  | [a, b, d], _ =>
   cases j with
   | zero => simp [mcs_cons]
   | succ j =>
    rw [List.set_cons_succ, mcs_cons, mcs_cons, ih (fun y hy => hs y (List.mem_cons_of_mem _ hy)) (by simpa using hj), show (j + 1) * 3 = j * 3 + 3 by omega]
    simp only [show j * 3 + 3 + 1 = j * 3 + 1 + 3 by omega, show j * 3 + 3 + 2 = j * 3 + 2 + 3 by omega, List.map_cons, List.map_nil, List.cons_append, List.nil_append, List.set_cons_succ]
def sto3b (u : World) (g o : Nat) (z0 z1 z2 : Int) : World := ((u.setCell ⟨g, o, none⟩ (.int .i64 z0)).setCell ⟨g, o + 1, none⟩ (.int .i64 z1)).setCell ⟨g, o + 2, none⟩ (.int .i64 z2)
theorem Rw.sto (h : Rw base u0 u g n c l) {j : Nat} (hj : j < n) (z0 z1 z2 : Int) : Rw base u0 (sto3b u g (j * 3) z0 z1 z2) g n c (l.set j [z0, z1, z2]) := by
 have h2 := (h.own.stored (j * 3) (.int .i64 z0)).1
 have h3 := (h2.stored (j * 3 + 1) (.int .i64 z1)).1
 have h4 := (h3.stored (j * 3 + 2) (.int .i64 z2)).1
 refine ⟨?_, ((h.kp.s1 _ _).s1 _ _).s1 _ _, fun y hy => ?_, by rw [List.length_set]; exact h.len⟩
 ·rw [mcs_st3 h.size (by rw [h.len]; exact hj)]
  exact h4
 ·rcases List.mem_or_eq_of_mem_set hy with hy | rfl
  ·exact h.size y hy
  ·rfl
theorem Rw.fz (h : Rw base u0 u g n c l) (k : Nat) : u.frozen? ⟨g, k, none⟩ = false := h.own.frozenAt k
theorem Rw.el (h : Rw base u0 u g n c l) {j : Nat} {z0 z1 z2 : Int} (hj : l[j]? = some [z0, z1, z2]) : u.cell? ⟨g, j * 3, none⟩ = some (.int .i64 z0) ∧ u.cell? ⟨g, j * 3 + 1, none⟩ = some (.int .i64 z1) ∧ u.cell? ⟨g, j * 3 + 2, none⟩ = some (.int .i64 z2) := by
 have hl : j < n := by rw [← h.len]; exact (List.getElem?_eq_some_iff.1 hj).1
 refine ⟨?_, ?_, ?_⟩
 ·have := h.own.cellAt (j * 3) (by omega)
  rw [this]
  exact mcs_at (i := 0) h.size hj rfl
 ·rw [h.own.cellAt _ (by omega)]
  exact mcs_at (i := 1) h.size hj rfl
 ·rw [h.own.cellAt _ (by omega)]
  exact mcs_at (i := 2) h.size hj rfl
theorem Rw.lt (h : Rw base u0 u g n c l) : g < u.heap.size := (h.own.lt g rfl).2
theorem Rw.at3 (h : Rw base u0 u g n c l) {j : Nat} (hj : j < n) : ∃ z0 z1 z2, l[j]? = some [z0, z1, z2] := by
 obtain ⟨y, hy⟩ : ∃ y, l[j]? = some y := ⟨_, List.getElem?_eq_getElem (by rw [h.len]; exact hj)⟩
 match y, h.size y (List.mem_of_getElem? hy) with
 | [a, b, d], _ => exact ⟨a, b, d, hy⟩
theorem Rw.clear (h : Rw base u0 u g n c l) {i : Nat} (hi : i < n) :
  ∃ u', (∀ (ty : TypeId) (c' : Nat), (Builtin.clear_ #[23] ty #[.slice (some ⟨g, i * 3, none⟩) (n - i) c']).run Tryz.prog u = .ok (.tuple #[]) u') ∧ Rw base u0 u' g i c (l.take i) := by
 have hv : ∀ w', (zeroValue 46).run Tryz.prog w' = .ok (.agg #[.int .i64 0, .int .i64 0, .int .i64 0]) w' := Tryz.zeroValue46
 have own := h.own
 have hn := h.len
 rcases own.2 with ⟨e0, _⟩ | ⟨g', cap, cur, e0, hb, hg, hnc, hm, hcs, ht⟩
 ·cases e0
 ·cases e0
  obtain ⟨Z, hZ⟩ : ∃ Z, Z = (Builtin.zeroCells (Value.agg #[.int .i64 0, .int .i64 0, .int .i64 0]).cells (n - i)).toList := ⟨_, rfl⟩
  have hZl : Z.length = (n - i) * 3 := by rw [hZ]; simp [size_zeroCells, Value.cells]
  have hZ1 : ∀ v ∈ Z, v.oneCell' = true := fun v hv => by
   rw [hZ] at hv
   simp only [Builtin.zeroCells, Value.cells, List.size_toArray, List.length_cons, List.length_nil, Array.toList_map, List.mem_map] at hv
   obtain ⟨k, _, rfl⟩ := hv
   obtain h | h | h : k % (0 + 1 + 1 + 1) = 0 ∨ k % (0 + 1 + 1 + 1) = 1 ∨ k % (0 + 1 + 1 + 1) = 2 := by omega
   all_goals
    rw [h]
    rfl
  have hst := run_storeCells_at Tryz.prog g (i * 3) 46 Z 0 cur u hg (by rw [hZl, hcs]; omega) hZ1
  have hsz : ∀ y ∈ l.take i, y.length = 3 := fun y hy => h.size y (List.mem_of_mem_take hy)
  have hlt : (mcs (l.take i)).length = i * 3 := by rw [mcs_length hsz, List.length_take]; omega
  have hpre : cur.toList.take (i * 3) = mcs (l.take i) := by
   have := congrArg (List.take (i * 3)) ht
   rw [List.take_take, Nat.min_eq_left (by omega)] at this
   rw [this]
   have e : mcs l = mcs (l.take i) ++ mcs (l.drop i) := by rw [← mcs_append, List.take_append_drop]
   rw [e, ← hlt, List.take_left]
  obtain ⟨new, hnew⟩ : ∃ new, new = cur.toList.take (i * 3 + 0) ++ Z ++ cur.toList.drop (i * 3 + 0 + Z.length) := ⟨_, rfl⟩
  have hnl : new.length = cur.size := by rw [hnew]; simp [hZl, hcs]; omega
  have hnt : new.take (i * 3) = mcs (l.take i) := by rw [hnew, Nat.add_zero, List.append_assoc, hpre, ← hlt, List.take_left]
  refine ⟨u.setRow g new.toArray, ?_, ⟨⟨hlt, .inr ⟨g, c, new.toArray, rfl, hb, setRow_heap u g cur _ _ _ hg, by omega, hm, by simpa [hnl] using hcs, by simpa using hnt⟩⟩, ?_, hsz, by rw [List.length_take]; omega⟩⟩
  ·intro ty c'
   obtain ⟨m, hm2⟩ : ∃ m, n - i = m + 1 := ⟨n - i - 1, by omega⟩
   rw [hm2] at hZ ⊢
   rw [hnew]
   simp only [Nat.add_zero] at hst ⊢
   simp [Builtin.clear_, run_underlying Tryz.underlying23, hv, ← hZ, hst]
  ·refine h.kp.trans (Y := [g]) ?_ (fun k hk _ => hk)
   have hB := below_setRow (Below.refl g u) (Nat.le_refl g) new.toArray
   refine ⟨hB.os, hB.tape, hB.output, hB.size, fun k _ hk => ?_⟩
   simp only [List.mem_cons, List.not_mem_nil, or_false] at hk
   simp only [World.setRow]
   rw [Array.getElem?_modify, if_neg (fun e => hk e.symm)]
theorem fgt1_any (k : Int) (q : Nat) (z0 z1 z2 : Int) (u : World) (hc : u.cell? ⟨q, 0, none⟩ = some (.int .i64 k)) :
  Calls Tryz.prog 130 (#[.agg #[.int .i64 z0, .int .i64 z1, .int .i64 z2]] ++ #[.pointer (some ⟨q, 0, none⟩)]) u fun e w' => e = .returned (.bool (z0 == k)) ∧ Below u.heap.size u w' := by
 have hb := bel_new u (.cells #[.int .i64 z0, .int .i64 z1, .int .i64 z2] 46)
 have hlt := World.block_lt_of_cell? u _ hc
 have hc2 : (u.alloc (.cells #[.int .i64 z0, .int .i64 z1, .int .i64 z2] 46)).cell? ⟨q, 0, none⟩ = some (.int .i64 k) := by rw [hb.cell (World.block_lt_of_cell? u _ hc)]; exact hc
 have HB := hid hb
 clear hb
 go_enter Tryz.func130, Tryz.ntmps130
 go_wp2
 go_ret
 exact ⟨rfl, HB.out⟩
theorem cdelete_any (x : Sl) (k : Int) (q : Nat) (u : World) (hO : u.ownsRow base 46 3 x.v x.n (mcs x.l)) (hr : RdM 3 u x.a x.n x.c x.l) (hq : u.cell? ⟨q, 0, none⟩ = some (.int .i64 k)) (hqx : q ∉ x.bl) :
  Calls Tryz.prog 129 #[.slice x.a x.n x.c, .func (.func 130) #[] #[.pointer (some ⟨q, 0, none⟩)]] u fun e w' => ∃ y : Sl, e = .returned (.slice y.a y.n y.c) ∧ y.l = outL k x.l ∧ RdM 3 w' y.a y.n y.c y.l ∧ w'.ownsRow base 46 3 y.v y.n (mcs y.l) ∧ (∀ b ∈ y.bl, b ∈ x.bl) ∧ Kp x.bl u w' := by
 have hlq := World.block_lt_of_cell? _ _ hq
 have eg := enters_of Tryz.func130 (by kernel_rfl) rfl
 have CI := hid (cindexg_any x.a x.n x.c x.l k 130 #[.pointer (some ⟨q, 0, none⟩)] u hr eg (fun z0 z1 z2 v hv => fgt1_any k q z0 z1 z2 v (by rw [hv.cell hlq]; exact hq)))
 cases hx : ixf k x.l with
 | none =>
  have hi : ixI k x.l = -1 := by rw [ixI, hx]
  rw [hi] at CI
  have HX : Hid (∀ w', Below u.heap.size u w' → ∃ y : Sl, Ending.returned (.slice x.a x.n x.c) = .returned (.slice y.a y.n y.c) ∧ y.l = outL k x.l ∧ RdM 3 w' y.a y.n y.c y.l ∧ w'.ownsRow base 46 3 y.v y.n (mcs y.l) ∧ (∀ b ∈ y.bl, b ∈ x.bl) ∧ Kp x.bl u w') := fun w' hb => ⟨x, rfl, (outL_none hx).symm, hr.on hb, ownsRow_below hO hb, fun b h => h, kp_of_below hb _⟩
  clear hx hi hO hr hq
  go_enter Tryz.func129, Tryz.ntmps129
  go_wp2_with fail
  refine CI.out.mono ?_
  rintro e w1 ⟨rfl, hb1⟩
  have HX1 := hid (HX.out w1 hb1)
  clear hb1
  go_wp2
  go_ret
  exact HX1.out
 | some i0 =>
  obtain ⟨hD0, hi0⟩ := Dm.start hx
  have hi : ixI k x.l = i0 := by rw [ixI, hx]
  rw [hi] at CI
  have hlen := hr.len
  have hs := hr.small
  have hle := hr.le
  obtain ⟨g, hg⟩ : ∃ g, x.a = some ⟨g, 0, none⟩ := by
   rcases hO.2 with ⟨h1, h2⟩ | ⟨g, cap, cur, h1, _⟩
   ·rw [h2] at hlen
    omega
   ·rw [Sl.v] at h1
    cases hxa : x.a with
    | none => rw [hxa] at h1; cases h1
    | some a => rw [hxa] at h1; cases h1; exact ⟨g, rfl⟩
  have hbl : x.bl = [g] := by rw [Sl.bl, Sl.v, hg]; rfl
  have hO' := hO
  rw [Sl.v, hg] at hO'
  have HR0 : Hid (Rw base u u g x.n x.c x.l) := ⟨hO', Kp.refl _ _, hr.size, hlen⟩
  have hqg : q ≠ g := fun e => hqx (by rw [hbl, e]; simp)
  have HQ : Hid (∀ W L, Rw base u W g x.n x.c L → W.cell? ⟨q, 0, none⟩ = some (.int .i64 k) ∧ q < W.heap.size) := fun W L hW => by
   have h1 : W.cell? ⟨q, 0, none⟩ = some (.int .i64 k) := hW.kp.cell hq (by simpa using hqg)
   exact ⟨h1, World.block_lt_of_cell? _ _ h1⟩
  have HFIN : Hid (∀ W' i, Rw base u W' g i x.c (outL k x.l) → ∃ y : Sl, Ending.returned (.slice (some ⟨g, 0, none⟩) i x.c) = .returned (.slice y.a y.n y.c) ∧ y.l = outL k x.l ∧ RdM 3 W' y.a y.n y.c y.l ∧ W'.ownsRow base 46 3 y.v y.n (mcs y.l) ∧ (∀ b ∈ y.bl, b ∈ x.bl) ∧ Kp x.bl u W') := fun W' i hW => by
   obtain ⟨y, hy, hn, hl, hrd, hown⟩ := own_sl hW.own hW.len hW.size
   refine ⟨y, by rw [hy, Sl.v], hl, hrd, hown, fun b hb => ?_, by rw [hbl]; exact hW.kp⟩
   rw [Sl.bl, ← hy] at hb
   rw [hbl]
   exact hb
  have HD := hid hD0
  have HL := hid hlen
  have hin : i0 < x.n := by omega
  rw [hg] at CI ⊢
  clear hx hi hO hO' hr hq hD0 hlen hqx
  go_enter Tryz.func129, Tryz.ntmps129
  go_wp2_with fail
  refine CI.out.mono ?_
  rintro e w1 ⟨rfl, hb1⟩
  have HR1 := hid (HR0.out.on hb1)
  have hq1 : ((i0 : Int) == -1) = false := by simp
  clear hb1 HR0 CI
  go_wp2
  go_loopw [5, 6] (fun a b wr => ∃ (i j : Nat) (L : List (List Int)), a = .int .i64 i ∧ b = .int .i64 j ∧ j ≤ x.n ∧ Dm (fun y => hd y == k) x.l L i j ∧ Rw base u wr g x.n x.c L) (fun _ b _ => x.n - (numOf b).toNat)
  case atStart => exact ⟨i0, i0 + 1, x.l, rfl, rfl, by omega, HD.out, HR1.out⟩
  case round =>
   obtain ⟨i, j, L, rfl, rfl, hj, hD, hR⟩ := hrel
   have HD2 := hid hD
   have HR2 := hid hR
   have hij := hD.ij
   have HLL : Hid (L.length = x.n) := hR.len
   clear hD hR HD HR1
   by_cases hgo : j < x.n
   ·have e1 : decide ((j : Int) < x.n) = true := decide_eq_true (by omega)
    have g1 := HR2.out.lt
    obtain ⟨z0, z1, z2, hLr⟩ := HR2.out.at3 hgo
    obtain ⟨s0, s1, s2, hLs⟩ := HR2.out.at3 (show i < x.n by omega)
    have hr : x.l[j]? = some [z0, z1, z2] := by
     have := congrArg (fun l : List (List Int) => l[0]?) HD2.out.snd
     simp only [List.getElem?_drop, Nat.add_zero] at this
     rw [← this, hLr]
    obtain ⟨c0, c1, c2⟩ := HR2.out.el hLr
    have e2 : (j : Int) < x.n := by omega
    have e3 : (i : Int) < x.n := by omega
    have hb0 := bel_new wr (.cells #[.int .i64 z0, .int .i64 z1, .int .i64 z2] 46)
    have HBX := hid (bk_new wr #[.int .i64 z0, .int .i64 z1, .int .i64 z2] 46)
    have HR3 := hid (HR2.out.on hb0)
    have CE := hid (fgt1_any k q z0 z1 z2 _ (HQ.out _ _ HR3.out).1)
    clear hb0
    cases he : (z0 == k)
    ·rw [he] at CE
     have HD3 := hid (HD2.out.keep hr (by rw [hd3]; exact he))
     clear hLr hr
     go_wp2_with fail
     refine CE.out.mono ?_
     rintro e w3 ⟨rfl, hb3⟩
     have hR4 := HR3.out.on hb3
     obtain ⟨d0, d1, d2⟩ := hR4.el hLs
     have hB3 := HBX.out.on hb3
     have t0 := hB3.cell 0
     have t1 := hB3.cell 1
     have t2 := hB3.cell 2
     have t3 := hB3.lt
     have g4 := hR4.lt
     have fz := hR4.fz
     have HR5 := hid (hR4.sto (show i < x.n by omega) z0 z1 z2)
     clear hR4 hb3 HR3 HBX CE hB3
     simp only [List.getElem?_toArray, List.getElem?_cons_zero, List.getElem?_cons_succ] at t0 t1 t2
     go_wp2
     go_roundw
     case rel => exact ⟨i + 1, j + 1, L.set i [z0, z1, z2], by go_num, by go_num, by omega, HD3.out, HR5.out⟩
     case measure => simp [numOf]; omega
    ·rw [he] at CE
     have HD3 := hid (HD2.out.skip hr (by rw [hd3]; exact he))
     clear hLr hr
     go_wp2_with fail
     refine CE.out.mono ?_
     rintro e w3 ⟨rfl, hb3⟩
     have HR4 := hid (HR3.out.on hb3)
     clear hb3 HR3 HBX CE
     go_wp2
     go_roundw
     case rel => exact ⟨i, j + 1, L, rfl, by go_num, by omega, HD3.out, HR4.out⟩
     case measure => simp [numOf]; omega
   ·have e1 : decide ((j : Int) < x.n) = false := decide_eq_false (by omega)
    obtain rfl : j = x.n := by omega
    obtain ⟨u', hcl, hR'⟩ := HR2.out.clear hij
    have HF : Hid (L.take i = outL k x.l) := by rw [Hid, HD2.out.fst, List.take_of_length_le (by rw [HL.out]; exact Nat.le_refl _), outL_eq]
    rw [HF.out] at hR'
    have HX := hid (HFIN.out _ _ hR')
    have hci : ¬ x.c = i := by omega
    clear hR' HF
    go_wp2
    go_ret
    exact HX.out
end
end Go.Proofs.YtkjempffidndeaaGreatDoor
