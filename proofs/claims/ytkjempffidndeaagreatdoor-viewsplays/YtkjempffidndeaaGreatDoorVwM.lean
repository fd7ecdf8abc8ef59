/- Lemmas that the proof leans on. -/
import Derived.Test.YtkjempffidndeaaGreatDoorVwK
namespace Go.Proofs.YtkjempffidndeaaGreatDoor
open Go Go.RowKit
open List renaming getElem_toArray → lqA, getElem_cons_zero → lqB, getElem_cons_succ → lqC, setIfInBounds_toArray → lqD, set_cons_zero → lqE, set_cons_succ → lqF
set_option maxRecDepth 100000
set_option maxHeartbeats 4000000
section
structure Hv where
 s : Int
 x : Int
 y : Int
 w : Int
 h : Int
 t : Bool
 a : Option Addr
 n : Nat
 c : Nat
 l : List (List Int)
def hvv (h : Hv) : Array Value := #[.int .i64 h.s, .int .i64 h.x, .int .i64 h.y, .int .i64 h.w, .int .i64 h.h, .bool h.t, .slice h.a h.n h.c]
def hcl (h : Hv) : List Int × Bool × List (List Int) := ([h.s, h.x, h.y, h.w, h.h], h.t, h.l)
def htF (F : Fo) (y : List Int) : List Int × Bool × List (List Int) := ([nm 0 y, nm 2 y, nm 3 y, nm 4 y, nm 5 y], (((gt F (nm 0 y)).map Sf.no).getD sq0).all, (((gt F (nm 0 y)).map Sf.no).getD sq0).rg)
def vhcs (l : List Hv) : List Value := l.flatMap fun h => (hvv h).toList
theorem vhcs_append (a b : List Hv) : vhcs (a ++ b) = vhcs a ++ vhcs b := by simp [vhcs]
theorem vhcs_at {l : List Hv} {j : Nat} {h : Hv} (hj : l[j]? = some h) {i : Nat} {v : Value} (hi : (hvv h)[i]? = some v) : (vhcs l)[j * 7 + i]? = some v := by
 induction l generalizing j with
 | nil => simp at hj
 | cons x l ih =>
  have hc : vhcs (x :: l) = (hvv x).toList ++ vhcs l := rfl
  rw [hc]
  cases j with
  | zero =>
   simp only [List.getElem?_cons_zero, Option.some.injEq] at hj
   subst hj
   have : i < (hvv x).toList.length := by simpa using (Array.getElem?_eq_some_iff.1 hi).1
   rw [Nat.zero_mul, Nat.zero_add, List.getElem?_append_left this]
   simpa using hi
  | succ j =>
   have h7 : (hvv x).toList.length = 7 := rfl
   rw [List.getElem?_append_right (by rw [h7]; omega), h7, show (j + 1) * 7 + i - 7 = j * 7 + i by omega]
   exact ih (by simpa using hj)
theorem vhtv_one (h : Hv) : ∀ u ∈ (hvv h).toList, u.oneCell' = true := by
 intro u hu
 simp only [hvv, List.mem_cons, List.not_mem_nil, or_false] at hu
 rcases hu with rfl | rfl | rfl | rfl | rfl | rfl | rfl <;> rfl
structure OwK (e : Nat) (w u : World) (v : Value) (l : List Hv) : Prop where
 own : u.ownsRow w.heap.size e 7 v l.length (vhcs l)
 bel : Below w.heap.size w u
 reg : ∀ h ∈ l, RdM 4 u h.a h.n h.c h.l
 ap : ∀ h ∈ l, ∀ x, h.a = some x → 0 < h.n → v.ownBlock ≠ some x.block
theorem OwK.nil (e : Nat) (w : World) : OwK e w w (.slice none 0 0) [] := ⟨World.ownsRow_nil _ _ _ _, Below.refl _ _, by simp, by simp⟩
theorem OwK.on {e : Nat} {w u u' : World} {v : Value} {l : List Hv} (h : OwK e w u v l) (hb : Below u.heap.size u u') : OwK e w u' v l := ⟨ownsRow_below h.own hb, Below.on h.bel hb, fun x hx => (h.reg x hx).on hb, h.ap⟩
theorem OwK.more {e : Nat} {w u u' : World} {v v' : Value} {l : List Hv} {x : Hv} (h : OwK e w u v l) (hx : RdM 4 u x.a x.n x.c x.l) (hxa : ∀ y, x.a = some y → 0 < x.n → v.ownBlock ≠ some y.block)
  (o2 : u'.ownsRow w.heap.size e 7 v' (l.length + 1) (vhcs l ++ (hvv x).toList)) (g : u.grownBy u' v.ownBlock) (p : v'.ownBlock = v.ownBlock ∨ v'.ownBlock = some u.heap.size) : OwK e w u' v' (l ++ [x]) := by
 have hall : ∀ y ∈ l ++ [x], RdM 4 u y.a y.n y.c y.l ∧ ∀ z, y.a = some z → 0 < y.n → v.ownBlock ≠ some z.block := fun y hy => by
  rcases List.mem_append.1 hy with hy | hy
  ·exact ⟨h.reg y hy, h.ap y hy⟩
  ·obtain rfl := List.mem_singleton.1 hy
   exact ⟨hx, hxa⟩
 refine ⟨by rw [List.length_append, vhcs_append]; simpa [vhcs] using o2, h.bel.grown g h.bel.size (fun k hk => (h.own.lt k hk).1), fun y hy => (hall y hy).1.kp (kp_of_grown g) (fun z hz hn hm => (hall y hy).2 z hz hn (by simpa using hm)), fun y hy z hz hn => ?_⟩
 rcases p with p | p
 ·rw [p]
  exact (hall y hy).2 z hz hn
 ·intro e2
  rw [p] at e2
  obtain ⟨b, off, e3, h4, _⟩ := (hall y hy).1.pl hn
  rw [hz] at e3
  cases e3
  simp only [Option.some.injEq] at e2
  omega
theorem OwK.el {e : Nat} {w u : World} {v : Value} {l : List Hv} (h : OwK e w u v l) {j : Nat} {x : Hv} (hj : l[j]? = some x) : ∃ g c, v = .slice (some ⟨g, 0, none⟩) l.length c ∧ g < u.heap.size ∧ (∀ i v', i < 7 → (hvv x)[i]? = some v' → u.cell? ⟨g, j * 7 + i, none⟩ = some v') := by
 have hl : j < l.length := (List.getElem?_eq_some_iff.1 hj).1
 rcases h.own.2 with ⟨rfl, h0⟩ | ⟨g, cap, cur, rfl, hb, hg, hn, hm, _, _⟩
 ·omega
 ·exact ⟨g, cap, rfl, (h.own.lt g rfl).2, fun i v' hi hv => by
   rw [h.own.cellAt _ (by omega)]
   exact vhcs_at hj hv⟩
theorem src_ht {P : Program} {T TS : Nat} (hu : P.underlying TS = some (.slice T)) (U : World) (h : Hv) : Src P 7 TS (.slice (some ⟨U.heap.size, 0, none⟩) 1 1) 1 (hvv h).toList (U.alloc (.cells (hvv h) T)) := by
 refine Src.ofSlice _ hu ⟨U.heap.size, 0, none⟩ 1 1 (hvv h).toList rfl (fun j u hu => ?_) (vhtv_one h)
 rw [Go.WideShapes.add_plain, Nat.zero_add, Lib.cell_of_heap (heap_alloc_new U _)]
 simpa using hu
theorem vset5 {u : World} {b j o k : Nat} {v : Value} (hn : b ≠ j) : (u.setCell ⟨j, k, none⟩ v).cell? ⟨b, o, none⟩ = u.cell? ⟨b, o, none⟩ := by
 have e : (u.setCell ⟨j, k, none⟩ v).heap[b]? = u.heap[b]? := heap_setCell_other _ _ _ _ hn
 simp only [World.cell?, e]
theorem map_take_any {β : Type} {l : List (List Int)} {k : Nat} {y : List Int} (h : l[k]? = some y) (g : List Int → β) : (l.take (k + 1)).map g = (l.take k).map g ++ [g y] := by
 rw [take_one h, List.map_append]
 rfl
theorem vfits72 {need : Nat} (h : need ≤ 1000000000) : ∀ old, old < need → Builtin.nextslicecap need old * 72 ≤ 281474976710656 := fun old ho => by
 have h1 := nextslicecap_near ho
 omega
theorem infoHitP : (Tryz.prog.info? 87).map (fun i => (i.zero, i.size, i.bytes)) = some (some (.agg #[.int .i64 0, .int .i64 0, .int .i64 0, .int .i64 0, .int .i64 0, .bool false, .slice none 0 0]), 7, 72) := by kernel_rfl
theorem vhits_any {es : List Addr} {w0 w : World} {p mm : Nat} {F : Fo} (hP : Pg es w0 w p mm F) (hm : mm ≤ 900) (a : Option Addr) (n c : Nat) (l : List (List Int)) (hr : RdM 6 w a n c l) (hbt : ∀ y ∈ l, Bt (nm 0 y)) (hn : n ≤ 40000) :
  Calls Tryz.prog 28 #[.pointer (some ⟨p, 0, none⟩), .slice a n c] w fun e w' => ∃ v hl, e = .returned v ∧ OwK 87 w w' v hl ∧ hl.map hcl = l.map (htF F) := by
 obtain ⟨i0, hi, hi0, hi1, hi2⟩ := infoMP infoHitP
 have HL := hid hr.len
 have HR := hid hr
 have HPG := hid hP
 have HBT := hid hbt
 clear hr hP hbt
 go_enter Tryz.func28, Tryz.ntmps28
 go_wp2
 go_loopw [5, 11] (fun v i wr => ∃ (j : Nat) (hl : List Hv), i = .int .i64 j ∧ j ≤ n ∧ hl.length = j ∧ OwK 87 w wr v hl ∧ hl.map hcl = (l.take j).map (htF F)) (fun _ i _ => n - (numOf i).toNat)
 case atStart => exact ⟨0, [], rfl, by omega, rfl, OwK.nil _ _, rfl⟩
 case round =>
  obtain ⟨j, hl, rfl, hj, hlj, hO, hc⟩ := hrel
  obtain ⟨a1, c1, rfl⟩ := own_shp hO.own
  have HO := hid hO
  have HC := hid hc
  have HLJ := hid hlj
  clear hO hc hlj
  by_cases hgo : j < n
  ·have e1 : decide ((j : Int) < n) = true := decide_eq_true (by omega)
   have e2 : (j : Int) < n := by omega
   obtain ⟨b, off, z0, z1, z2, z3, z4, z5, rfl, hb, hy, d0, d1, d2, d3, d4, d5⟩ := (HR.out.on HO.out.bel).el6 hgo
   have hb1 := bel_new wr (.cells #[.int .i64 z0, .int .i64 z1, .int .i64 z2, .int .i64 z3, .int .i64 z4, .int .i64 z5] 40)
   have CC := hid ((HPG.out.on (Below.on HO.out.bel hb1)).sno hm z0 (HBT.out _ (List.mem_of_getElem? hy)))
   have HB1 := hid hb1
   have HY := hid hy
   have HK1 := hid (bk_new wr #[.int .i64 z0, .int .i64 z1, .int .i64 z2, .int .i64 z3, .int .i64 z4, .int .i64 z5] 40)
   clear hy hb1
   go_wp2_with fail
   refine CC.out.mono ?_
   rintro e W3 ⟨r, rfl, hok, hnew, hrq, hb3⟩
   have hbS := bel_new W3 (.cells #[.bool r.at_, .int .i64 r.buf, .slice r.dm.a r.dm.n r.dm.c, .slice r.fr.a r.fr.n r.fr.c, .bool r.inp, .bool r.all, .slice r.rg.a r.rg.n r.rg.c, .bool r.ord, .slice r.od.a r.od.n r.od.c, .slice r.pl.a r.pl.n r.pl.c] 72)
   obtain ⟨x, hx⟩ : ∃ x : Hv, x = ⟨z0, z2, z3, z4, z5, r.all, r.rg.a, r.rg.n, r.rg.c, r.rg.l⟩ := ⟨_, rfl⟩
   have hcl1 : hcl x = htF F [z0, z1, z2, z3, z4, z5] := by
    rw [htF, show nm 0 [z0, z1, z2, z3, z4, z5] = z0 from rfl, ← hrq, hx]
    rfl
   obtain ⟨W4, hW4⟩ : ∃ W4, W4 = W3.alloc (.cells #[.bool r.at_, .int .i64 r.buf, .slice r.dm.a r.dm.n r.dm.c, .slice r.fr.a r.fr.n r.fr.c, .bool r.inp, .bool r.all, .slice r.rg.a r.rg.n r.rg.c, .bool r.ord, .slice r.od.a r.od.n r.od.c, .slice r.pl.a r.pl.n r.pl.c] 72) := ⟨_, rfl⟩
   have hk4 := bk_new W3 #[.bool r.at_, .int .i64 r.buf, .slice r.dm.a r.dm.n r.dm.c, .slice r.fr.a r.fr.n r.fr.c, .bool r.inp, .bool r.all, .slice r.rg.a r.rg.n r.rg.c, .bool r.ord, .slice r.od.a r.od.n r.od.c, .slice r.pl.a r.pl.n r.pl.c] 72
   rw [← hW4] at hbS hk4
   have hb4 := Below.on hb3 hbS
   have k4 := HK1.out.on hb4
   have t0 := k4.cell 0
   have t1 := k4.cell 1
   have t2 := k4.cell 2
   have t3 := k4.cell 3
   have t4 := k4.cell 4
   have t5 := k4.cell 5
   have s5 := hk4.cell 5
   have s6 := hk4.cell 6
   have hbx := bel_new W4 (.cells (hvv x) 87)
   have HO5 := hid ((HO.out.on (Below.on HB1.out hb4)).on hbx)
   have HS5 := hid (src_ht (P := Tryz.prog) Tryz.underlying82 W4 x)
   have HX5 : Hid (RdM 4 (W4.alloc (.cells (hvv x) 87)) x.a x.n x.c x.l) := by
    rw [hx] at hbx ⊢
    exact (hok.rg.on hbS).on hbx
   have HAP : Hid (∀ y, x.a = some y → 0 < x.n → (Value.slice a1 hl.length c1).ownBlock ≠ some y.block) := fun y hy hn0 e => by
    rw [hx] at hy
    have h1 := hnew.rg y hy
    have h2 := (HO.out.own.lt _ e).2
    rw [size_new] at h1
    omega
   have hsz : w.heap.size ≤ (W4.alloc (.cells (hvv x) 87)).heap.size := HO5.out.bel.size
   have HCL := hid hcl1
   have HXX := hid hx
   have HW4 := hid hW4
   have hll : hl.length ≤ 40000 := by rw [HLJ.out]; omega
   rw [hx] at HS5 HX5 hsz
   simp only [hvv] at HS5 HX5 hsz
   clear hok hnew hrq hb3 hbS hk4 hb4 k4 hbx hcl1 hx hW4 d0 d1 d2 d3 d4 d5 CC
   go_upto_region 6 with fail
   rw [← HW4.out]
   rw [HXX.out] at HO5
   simp only [hvv] at HO5
   go_wp2_with (at_builtin; refine wpList_append_own_at _ rfl (.tmp 19) (.tmp 35) 82 82 rfl w.heap.size 87 i0 (.agg #[.int .i64 0, .int .i64 0, .int .i64 0, .int .i64 0, .int .i64 0, .bool false, .slice none 0 0]) 7 72 Tryz.underlying82 hi hi0 hi1 hi2 rfl _ _ _ rfl HO5.out.own _ _ _ rfl HS5.out (by simp only [maxLen]; omega) (vfits72 (by omega)) hsz ?_; intro v6 w6 o6 g6 p6; obtain ⟨a6, c6, rfl⟩ := own_shp o6; replace g6 : World.grownBy _ w6 (Value.slice a1 hl.length c1).ownBlock := g6; replace p6 : (Value.slice a6 (hl.length + 1) c6).ownBlock = (Value.slice a1 hl.length c1).ownBlock ∨ _ := p6; have HO6 := hid o6; have HG6 := hid g6; have HP6 := hid p6; clear o6 g6 p6)
   have HO7 : Hid (OwK 87 w w6 (.slice a6 (hl.length + 1) c6) (hl ++ [x])) := by
    rw [HXX.out] at HAP ⊢
    exact HO5.out.more HX5.out HAP.out HO6.out HG6.out HP6.out
   have HC7 : Hid ((hl ++ [x]).map hcl = (l.take (j + 1)).map (htF F)) := by
    rw [Hid, map_take_any HY.out, List.map_append, HC.out, ← HCL.out]
    rfl
   clear HO5 HS5 HX5 HAP HO6 HG6 HP6
   go_roundw
   case rel => exact ⟨j + 1, hl ++ [x], by go_num, by omega, by rw [List.length_append, HLJ.out]; rfl, HO7.out, HC7.out⟩
   case measure => simp [numOf]; omega
  ·have e1 : decide ((j : Int) < n) = false := decide_eq_false (by omega)
   have HE : Hid (hl.map hcl = l.map (htF F)) := by rw [Hid, HC.out, List.take_of_length_le (by rw [HL.out]; omega)]
   go_wp2
   go_ret
   exact ⟨_, hl, rfl, HO.out, HE.out⟩
theorem infoHitD : (Tryz.prog.info? 88).map (fun i => (i.zero, i.size, i.bytes)) = some (some (.agg #[.int .i64 0, .int .i64 0, .int .i64 0, .int .i64 0, .int .i64 0, .bool false, .slice none 0 0]), 7, 72) := by kernel_rfl
theorem rhits_any {w0 w : World} {q mm : Nat} {F : Fo} {Z : List Nat} (h : Dq w0 q mm F w Z) (a : Option Addr) (n c : Nat) (l : List (List Int)) (hr : RdM 6 w a n c l) (hn : n ≤ 40000) :
  Calls Tryz.prog 29 #[.pointer (some ⟨q, 0, none⟩), .slice a n c] w fun e w' => ∃ v hl, e = .returned v ∧ OwK 88 w w' v hl ∧ hl.map hcl = l.map (htF F) := by
 obtain ⟨i0, hi, hi0, hi1, hi2⟩ := infoMP infoHitD
 have hns := hr.small
 have HL := hid hr.len
 have HR := hid hr
 have HDQ := hid h
 clear hr h
 go_enter Tryz.func29, Tryz.ntmps29
 go_wp2
 go_loopw [5, 6] (fun v i wr => ∃ (j : Nat) (hl : List Hv), i = .int .i64 j ∧ j ≤ n ∧ hl.length = j ∧ OwK 88 w wr v hl ∧ hl.map hcl = (l.take j).map (htF F)) (fun _ i _ => n - (numOf i).toNat)
 case atStart => exact ⟨0, [], rfl, by omega, rfl, OwK.nil _ _, rfl⟩
 case round =>
  obtain ⟨j, hl, rfl, hj, hlj, hO, hc⟩ := hrel
  obtain ⟨a1, c1, rfl⟩ := own_shp hO.own
  have HO := hid hO
  have HC := hid hc
  have HLJ := hid hlj
  clear hO hc hlj
  by_cases hgo : j < n
  ·have e1 : decide ((j : Int) < n) = true := decide_eq_true (by omega)
   have e2 : (j : Int) < n := by omega
   obtain ⟨b, off, z0, z1, z2, z3, z4, z5, rfl, hb, hy, d0, d1, d2, d3, d4, d5⟩ := (HR.out.on HO.out.bel).el6 hgo
   have HY := hid hy
   have hll : hl.length ≤ 40000 := by rw [HLJ.out]; omega
   clear hy
   go_upto_region 5 with fail
   refine wp_region_held_drew (S := fun uu => RowKit.Below wr.heap.size wr uu) (by kernel_rfl) ?hh (fun hHeld => ?_)
   case hh => exact ((Below.refl _ _).drew)
   generalize World.drew _ = W0 at hHeld ⊢
   try dsimp only at hHeld
   refine wpAnyH_take (i := 0) (v := ?_) rfl (by kernel_rfl) (by kernel_rfl) (by kernel_rfl) (fun _ _ _ h => h) (Or.inl ⟨by kernel_rfl, ?hy0⟩) (by assumption) ?_
   case hy0 => (intro wI hSw; (try dsimp only at hSw); go_simp; try with_reducible rfl)
   try simp only [Act.put, lqA, lqB, lqD, lqE, lqF]
   refine wpAnyH_take (i := 1) (v := ?_) rfl (by kernel_rfl) (by kernel_rfl) (by kernel_rfl) (fun _ _ _ h => h) (Or.inl ⟨by kernel_rfl, ?hy1⟩) (by assumption) ?_
   case hy1 => (intro wI hSw; (try dsimp only at hSw); go_simp; try with_reducible rfl)
   try simp only [Act.put, lqA, lqB, lqC, lqD, lqE, lqF]
   refine wpAnyH_take (i := 2) (v := ?_) rfl (by kernel_rfl) (by kernel_rfl) (by kernel_rfl) (fun _ _ _ h => h) (Or.inl ⟨by kernel_rfl, ?hy2⟩) (by assumption) ?_
   case hy2 => (intro wI hSw; (try dsimp only at hSw); go_simp; try with_reducible rfl)
   try simp only [Act.put, lqA, lqB, lqC, lqD, lqE, lqF]
   refine wpAnyH_take (i := 3) (v := ?_) rfl (by kernel_rfl) (by kernel_rfl) (by kernel_rfl) (fun _ _ _ h => h) (Or.inl ⟨by kernel_rfl, ?hy3⟩) (by assumption) ?_
   case hy3 => (intro wI hSw; (try dsimp only at hSw); go_simp; try with_reducible rfl)
   try simp only [Act.put, lqA, lqB, lqC, lqD, lqE, lqF]
   refine wpAnyH_take (i := 4) (v := ?_) rfl (by kernel_rfl) (by kernel_rfl) (by kernel_rfl) (fun _ _ _ h => h) (Or.inl ⟨by kernel_rfl, ?hy4⟩) (by assumption) ?_
   case hy4 => (intro wI hSw; (try dsimp only at hSw); have k0 := (hSw.cell hb).trans d0; go_simp; try with_reducible rfl)
   try simp only [Act.put, lqA, lqB, lqC, lqD, lqE, lqF]
   refine wpAnyH_take (i := 5) (v := ?_) rfl (by kernel_rfl) (by kernel_rfl) (by kernel_rfl) (fun _ _ _ h => h) (Or.inl ⟨by kernel_rfl, ?hy5⟩) (by assumption) ?_
   case hy5 => (intro wI hSw; (try dsimp only at hSw); go_simp; try with_reducible rfl)
   try simp only [Act.put, lqA, lqB, lqC, lqD, lqE, lqF]
   refine wpAnyH_take (i := 6) (v := ?_) rfl (by kernel_rfl) (by kernel_rfl) (by kernel_rfl) (fun _ _ _ h => h) (Or.inl ⟨by kernel_rfl, ?hy6⟩) (by assumption) ?_
   case hy6 => (intro wI hSw; (try dsimp only at hSw); go_simp; try with_reducible rfl)
   try simp only [Act.put, lqA, lqB, lqC, lqD, lqE, lqF]
   refine wpAnyH_take (i := 7) (v := ?_) rfl (by kernel_rfl) (by kernel_rfl) (by kernel_rfl) (fun _ _ _ h => h) (Or.inl ⟨by kernel_rfl, ?hy7⟩) (by assumption) ?_
   case hy7 => (intro wI hSw; (try dsimp only at hSw); go_simp; try with_reducible rfl)
   try simp only [Act.put, lqA, lqB, lqC, lqD, lqE, lqF]
   refine wpAnyH_take (i := 8) (v := ?_) rfl (by kernel_rfl) (by kernel_rfl) (by kernel_rfl) (fun _ _ _ h => h) (Or.inl ⟨by kernel_rfl, ?hy8⟩) (by assumption) ?_
   case hy8 => (intro wI hSw; (try dsimp only at hSw); go_simp; try with_reducible rfl)
   try simp only [Act.put, lqA, lqB, lqC, lqD, lqE, lqF]
   refine wpAnyH_take (i := 9) (v := ?_) rfl (by kernel_rfl) (by kernel_rfl) (by kernel_rfl) (fun _ _ _ h => h) (Or.inl ⟨by kernel_rfl, ?hy9⟩) (by assumption) ?_
   case hy9 => (intro wI hSw; (try dsimp only at hSw); have k2 := (hSw.cell hb).trans d2; go_simp; try with_reducible rfl)
   try simp only [Act.put, lqA, lqB, lqC, lqD, lqE, lqF]
   refine wpAnyH_take (i := 10) (v := ?_) rfl (by kernel_rfl) (by kernel_rfl) (by kernel_rfl) (fun _ _ _ h => h) (Or.inl ⟨by kernel_rfl, ?hy10⟩) (by assumption) ?_
   case hy10 => (intro wI hSw; (try dsimp only at hSw); go_simp; try with_reducible rfl)
   try simp only [Act.put, lqA, lqB, lqC, lqD, lqE, lqF]
   refine wpAnyH_take (i := 11) (v := ?_) rfl (by kernel_rfl) (by kernel_rfl) (by kernel_rfl) (fun _ _ _ h => h) (Or.inl ⟨by kernel_rfl, ?hy11⟩) (by assumption) ?_
   case hy11 => (intro wI hSw; (try dsimp only at hSw); go_simp; try with_reducible rfl)
   try simp only [Act.put, lqA, lqB, lqC, lqD, lqE, lqF]
   refine wpAnyH_take (i := 12) (v := ?_) rfl (by kernel_rfl) (by kernel_rfl) (by kernel_rfl) (fun _ _ _ h => h) (Or.inl ⟨by kernel_rfl, ?hy12⟩) (by assumption) ?_
   case hy12 => (intro wI hSw; (try dsimp only at hSw); go_simp; try with_reducible rfl)
   try simp only [Act.put, lqA, lqB, lqC, lqD, lqE, lqF]
   refine wpAnyH_take (i := 13) (v := ?_) rfl (by kernel_rfl) (by kernel_rfl) (by kernel_rfl) (fun _ _ _ h => h) (Or.inl ⟨by kernel_rfl, ?hy13⟩) (by assumption) ?_
   case hy13 => (intro wI hSw; (try dsimp only at hSw); go_simp; try with_reducible rfl)
   try simp only [Act.put, lqA, lqB, lqC, lqD, lqE, lqF]
   refine wpAnyH_take (i := 14) (v := ?_) rfl (by kernel_rfl) (by kernel_rfl) (by kernel_rfl) (fun _ _ _ h => h) (Or.inl ⟨by kernel_rfl, ?hy14⟩) (by assumption) ?_
   case hy14 => (intro wI hSw; (try dsimp only at hSw); have k3 := (hSw.cell hb).trans d3; go_simp; try with_reducible rfl)
   try simp only [Act.put, lqA, lqB, lqC, lqD, lqE, lqF]
   refine wpAnyH_take (i := 15) (v := ?_) rfl (by kernel_rfl) (by kernel_rfl) (by kernel_rfl) (fun _ _ _ h => h) (Or.inl ⟨by kernel_rfl, ?hy15⟩) (by assumption) ?_
   case hy15 => (intro wI hSw; (try dsimp only at hSw); go_simp; try with_reducible rfl)
   try simp only [Act.put, lqA, lqB, lqC, lqD, lqE, lqF]
   refine wpAnyH_take (i := 16) (v := ?_) rfl (by kernel_rfl) (by kernel_rfl) (by kernel_rfl) (fun _ _ _ h => h) (Or.inl ⟨by kernel_rfl, ?hy16⟩) (by assumption) ?_
   case hy16 => (intro wI hSw; (try dsimp only at hSw); go_simp; try with_reducible rfl)
   try simp only [Act.put, lqA, lqB, lqC, lqD, lqE, lqF]
   refine wpAnyH_take (i := 17) (v := ?_) rfl (by kernel_rfl) (by kernel_rfl) (by kernel_rfl) (fun _ _ _ h => h) (Or.inl ⟨by kernel_rfl, ?hy17⟩) (by assumption) ?_
   case hy17 => (intro wI hSw; (try dsimp only at hSw); go_simp; try with_reducible rfl)
   try simp only [Act.put, lqA, lqB, lqC, lqD, lqE, lqF]
   refine wpAnyH_take (i := 18) (v := ?_) rfl (by kernel_rfl) (by kernel_rfl) (by kernel_rfl) (fun _ _ _ h => h) (Or.inl ⟨by kernel_rfl, ?hy18⟩) (by assumption) ?_
   case hy18 => (intro wI hSw; (try dsimp only at hSw); go_simp; try with_reducible rfl)
   try simp only [Act.put, lqA, lqB, lqC, lqD, lqE, lqF]
   refine wpAnyH_take (i := 19) (v := ?_) rfl (by kernel_rfl) (by kernel_rfl) (by kernel_rfl) (fun _ _ _ h => h) (Or.inl ⟨by kernel_rfl, ?hy19⟩) (by assumption) ?_
   case hy19 => (intro wI hSw; (try dsimp only at hSw); have k4 := (hSw.cell hb).trans d4; go_simp; try with_reducible rfl)
   try simp only [Act.put, lqA, lqB, lqC, lqD, lqE, lqF]
   refine wpAnyH_take (i := 20) (v := ?_) rfl (by kernel_rfl) (by kernel_rfl) (by kernel_rfl) (fun _ _ _ h => h) (Or.inl ⟨by kernel_rfl, ?hy20⟩) (by assumption) ?_
   case hy20 => (intro wI hSw; (try dsimp only at hSw); go_simp; try with_reducible rfl)
   try simp only [Act.put, lqA, lqB, lqC, lqD, lqE, lqF]
   refine wpAnyH_take (i := 21) (v := ?_) rfl (by kernel_rfl) (by kernel_rfl) (by kernel_rfl) (fun _ _ _ h => h) (Or.inl ⟨by kernel_rfl, ?hy21⟩) (by assumption) ?_
   case hy21 => (intro wI hSw; (try dsimp only at hSw); go_simp; try with_reducible rfl)
   try simp only [Act.put, lqA, lqB, lqC, lqD, lqE, lqF]
   refine wpAnyH_take (i := 22) (v := ?_) rfl (by kernel_rfl) (by kernel_rfl) (by kernel_rfl) (fun _ _ _ h => h) (Or.inl ⟨by kernel_rfl, ?hy22⟩) (by assumption) ?_
   case hy22 => (intro wI hSw; (try dsimp only at hSw); go_simp; try with_reducible rfl)
   try simp only [Act.put, lqA, lqB, lqC, lqD, lqE, lqF]
   refine wpAnyH_take (i := 23) (v := ?_) rfl (by kernel_rfl) (by kernel_rfl) (by kernel_rfl) (fun _ _ _ h => h) (Or.inl ⟨by kernel_rfl, ?hy23⟩) (by assumption) ?_
   case hy23 => (intro wI hSw; (try dsimp only at hSw); go_simp; try with_reducible rfl)
   try simp only [Act.put, lqA, lqB, lqC, lqD, lqE, lqF]
   refine wpAnyH_take (i := 24) (v := ?_) rfl (by kernel_rfl) (by kernel_rfl) (by kernel_rfl) (fun _ _ _ h => h) (Or.inl ⟨by kernel_rfl, ?hy24⟩) (by assumption) ?_
   case hy24 => (intro wI hSw; (try dsimp only at hSw); have k5 := (hSw.cell hb).trans d5; go_simp; try with_reducible rfl)
   try simp only [Act.put, lqA, lqB, lqC, lqD, lqE, lqF]
   refine wpAnyH_take (i := 25) (v := ?_) rfl (by kernel_rfl) (by kernel_rfl) (by kernel_rfl) (fun _ _ _ h => h) (Or.inl ⟨by kernel_rfl, ?hy25⟩) (by assumption) ?_
   case hy25 => (intro wI hSw; (try dsimp only at hSw); go_simp; try with_reducible rfl)
   try simp only [Act.put, lqA, lqB, lqC, lqD, lqE, lqF]
   refine wpAnyH_ready (rs := [26]) (by kernel_rfl) (by simp) ?_
   refine AllReadyH.cons rfl (fun K hK => ?_) AllReadyH.nil
   have HB0 := hid hHeld
   have hb1 := bel_new W0 (.cells #[.int .i64 0, .int .i64 0, .int .i64 0, .int .i64 0, .int .i64 0, .bool false, .slice none 0 0] 88)
   have hH2 := Below.on hHeld hb1
   go_simp
   refine hK.out _ _ hH2 (fun _ => ?_)
   clear hK K hHeld hb1
   have hHeld := hH2
   clear hH2
   try simp only [Act.put, lqA, lqB, lqC, lqD, lqE, lqF]
   refine wpAnyH_ready (rs := [27]) (by kernel_rfl) (by simp) ?_
   refine AllReadyH.cons rfl (fun K hK => ?_) AllReadyH.nil
   have bk := bk_new W0 #[.int .i64 0, .int .i64 0, .int .i64 0, .int .i64 0, .int .i64 0, .bool false, .slice none 0 0] 88
   have fz := bk.fz
   have q0 := bk.cell 0
   have q1 := bk.cell 1
   have q2 := bk.cell 2
   have q3 := bk.cell 3
   have q4 := bk.cell 4
   have q5 := bk.cell 5
   have q6 := bk.cell 6
   have hH2 := Below.on HB0.out (bel_new W0 (.cells #[.int .i64 z0, .int .i64 z2, .int .i64 z3, .int .i64 z4, .int .i64 z5, .bool false, .slice none 0 0] 88))
   go_simp
   refine hK.out _ _ hH2 (fun _ => ?_)
   clear hK K hHeld bk fz q0 q1 q2 q3 q4 q5 q6
   try simp only [Act.put, lqA, lqB, lqC, lqD, lqE, lqF]
   refine wpAnyH_done (by kernel_rfl) ?_ _
   have HBW : Hid (wr.heap.size ≤ W0.heap.size) := HB0.out.size
   have HK1 := hid (bk_new W0 #[.int .i64 z0, .int .i64 z2, .int .i64 z3, .int .i64 z4, .int .i64 z5, .bool false, .slice none 0 0] 88)
   have HBL := hid hH2
   obtain ⟨V1, hV1⟩ : ∃ V1, V1 = W0.alloc (.cells #[.int .i64 z0, .int .i64 z2, .int .i64 z3, .int .i64 z4, .int .i64 z5, .bool false, .slice none 0 0] 88) := ⟨_, rfl⟩
   rw [← hV1] at HK1 HBL ⊢
   have hwr := HO.out.bel
   have hVb := Below.on hwr HBL.out
   have y0 := (HBL.out.cell hb).trans d0
   clear hV1 hH2 HB0 d0 d1 d2 d3 d4 d5
   cases hg : gt F z0 with
   | none =>
    have CS := hid (HDQ.out.away hg V1 hVb)
    have HG := hid hg
    clear hg
    go_wp2_with fail
    refine CS.out.mono ?_
    rintro e u ⟨rfl, hu⟩
    obtain rfl : V1 = u := hu.symm
    clear CS
    obtain ⟨x, hx⟩ : ∃ x : Hv, x = ⟨z0, z2, z3, z4, z5, false, none, 0, 0, []⟩ := ⟨_, rfl⟩
    have hcl1 : hcl x = htF F [z0, z1, z2, z3, z4, z5] := by
     rw [htF, show nm 0 [z0, z1, z2, z3, z4, z5] = z0 from rfl, HG.out, hx]; rfl
    have hbx := bel_new V1 (.cells (hvv x) 88)
    have HO5 := hid ((HO.out.on HBL.out).on hbx)
    have HS5 := hid (src_ht (P := Tryz.prog) Tryz.underlying84 V1 x)
    have HX5 : Hid (RdM 4 (V1.alloc (.cells (hvv x) 88)) x.a x.n x.c x.l) := by
     rw [hx] at hbx ⊢
     exact (RdM.nil 4 V1).on hbx
    have HAP : Hid (∀ y, x.a = some y → 0 < x.n → (Value.slice a1 hl.length c1).ownBlock ≠ some y.block) := fun y hy hn0 e => by
     rw [hx] at hy hn0
     cases hy
    have hsz : w.heap.size ≤ (V1.alloc (.cells (hvv x) 88)).heap.size := HO5.out.bel.size
    have HCL := hid hcl1
    have HXX := hid hx
    rw [hx] at HS5 HX5 hsz HO5
    simp only [hvv] at HS5 HX5 hsz HO5
    clear hbx hcl1 hx
    go_upto_region 10 with fail
    have q0 := HK1.out.cell 0
    have q1 := HK1.out.cell 1
    have q2 := HK1.out.cell 2
    have q3 := HK1.out.cell 3
    have q4 := HK1.out.cell 4
    have q5 := HK1.out.cell 5
    have q6 := HK1.out.cell 6
    go_wp2_with (at_builtin; refine wpList_append_own_at _ rfl (.tmp 62) (.tmp 64) 84 84 rfl w.heap.size 88 i0 (.agg #[.int .i64 0, .int .i64 0, .int .i64 0, .int .i64 0, .int .i64 0, .bool false, .slice none 0 0]) 7 72 Tryz.underlying84 hi hi0 hi1 hi2 rfl _ _ _ rfl HO5.out.own _ _ _ rfl HS5.out (by simp only [maxLen]; omega) (vfits72 (by omega)) hsz ?_; intro v6 w6 o6 g6 p6; obtain ⟨a6, c6, rfl⟩ := own_shp o6; replace g6 : World.grownBy _ w6 (Value.slice a1 hl.length c1).ownBlock := g6; replace p6 : (Value.slice a6 (hl.length + 1) c6).ownBlock = (Value.slice a1 hl.length c1).ownBlock ∨ _ := p6; have HO6 := hid o6; have HG6 := hid g6; have HP6 := hid p6; clear o6 g6 p6)
    have HO7 : Hid (OwK 88 w w6 (.slice a6 (hl.length + 1) c6) (hl ++ [x])) := by
     rw [HXX.out] at HAP ⊢
     exact HO5.out.more HX5.out HAP.out HO6.out HG6.out HP6.out
    have HC7 : Hid ((hl ++ [x]).map hcl = (l.take (j + 1)).map (htF F)) := by
     rw [Hid, map_take_any HY.out, List.map_append, HC.out, ← HCL.out]
     rfl
    clear HO5 HS5 HX5 HAP HO6 HG6 HP6
    go_roundw
    case rel => exact ⟨j + 1, hl ++ [x], by go_num, by omega, by rw [List.length_append, HLJ.out]; rfl, HO7.out, HC7.out⟩
    case measure => simp [numOf]; omega
   | some t =>
    obtain ⟨g, P, s, hst, hnw, hcs⟩ := HDQ.out.here hg
    have CS := hid (hcs V1 hVb)
    have hnV := hnw.on hVb
    have HG : Hid (gt F z0 = some s.f) := by rw [hst]; exact hg
    have hW0 := HK1.out.lt
    have hgw : g < w.heap.size := hnw.lt
    have HRG := hid hnw.rd
    have t5 := hnV.all
    have t6 := hnV.rg
    have fz := HK1.out.fz
    have q5 := HK1.out.cell 5
    have hk2 := (HK1.out.set 5 (.bool s.no.all)).set 6 (.slice s.no.rg.a s.no.rg.n s.no.rg.c)
    simp only [List.setIfInBounds_toArray, List.set_cons_zero, List.set_cons_succ] at hk2
    have hws := hwr.size
    have hlo : wr.heap.size ≤ W0.heap.size := HBW.out
    have hb2 : RowKit.Below wr.heap.size wr ((V1.setCell ⟨W0.heap.size, 5, none⟩ (.bool s.no.all)).setCell ⟨W0.heap.size, 6, none⟩ (.slice s.no.rg.a s.no.rg.n s.no.rg.c)) := (HBL.out.setCell (p := ⟨W0.heap.size, 5, none⟩) hlo _).setCell (p := ⟨W0.heap.size, 6, none⟩) hlo _
    have k6 := (HK1.out.set 5 (.bool s.no.all)).cell 6
    have f6 := (HK1.out.set 5 (.bool s.no.all)).fz 6
    have u6 : (V1.setCell ⟨W0.heap.size, 5, none⟩ (.bool s.no.all)).cell? ⟨g, P + 23 + 6, none⟩ = some (.slice s.no.rg.a s.no.rg.n s.no.rg.c) := by rw [vset5 (by omega)]; exact t6
    have HK2 := hid hk2
    have HB2 := hid hb2
    have HWS := hid hws
    obtain ⟨V2, hV2⟩ : ∃ V2, V2 = ((V1.setCell ⟨W0.heap.size, 5, none⟩ (.bool s.no.all)).setCell ⟨W0.heap.size, 6, none⟩ (.slice s.no.rg.a s.no.rg.n s.no.rg.c)) := ⟨_, rfl⟩
    rw [← hV2] at HK2 HB2
    have HV2 := hid hV2
    clear hg hst hnw hcs hnV hk2 hb2 hV2
    go_wp2_with fail
    refine CS.out.mono ?_
    rintro e u ⟨rfl, hu⟩
    obtain rfl : V1 = u := hu.symm
    clear CS
    obtain ⟨x, hx⟩ : ∃ x : Hv, x = ⟨z0, z2, z3, z4, z5, s.no.all, s.no.rg.a, s.no.rg.n, s.no.rg.c, s.no.rg.l⟩ := ⟨_, rfl⟩
    have hcl1 : hcl x = htF F [z0, z1, z2, z3, z4, z5] := by
     rw [htF, show nm 0 [z0, z1, z2, z3, z4, z5] = z0 from rfl, HG.out, hx]; rfl
    have hbx := bel_new V2 (.cells (hvv x) 88)
    have HO5 := hid ((HO.out.on HB2.out).on hbx)
    have HS5 := hid (src_ht (P := Tryz.prog) Tryz.underlying84 V2 x)
    have HX5 : Hid (RdM 4 (V2.alloc (.cells (hvv x) 88)) x.a x.n x.c x.l) := by
     rw [hx] at hbx ⊢
     exact (HRG.out.on (Below.on hwr HB2.out)).on hbx
    have HAP : Hid (∀ y, x.a = some y → 0 < x.n → (Value.slice a1 hl.length c1).ownBlock ≠ some y.block) := fun y hy hn0 e => by
     rw [hx] at hy hn0
     obtain ⟨bb, oo, e3, h4, _⟩ := HRG.out.pl hn0; have hy2 : s.no.rg.a = some y := hy; rw [hy2] at e3; cases e3; have h1 := (HO.out.own.lt _ e).1; simp only at h1; omega
    have hsz : w.heap.size ≤ (V2.alloc (.cells (hvv x) 88)).heap.size := HO5.out.bel.size
    have HCL := hid hcl1
    have HXX := hid hx
    rw [hx] at HS5 HX5 hsz HO5
    simp only [hvv] at HS5 HX5 hsz HO5
    clear hbx hcl1 hx
    go_upto_region 10 with fail
    rw [← HV2.out]
    have p0 := HK2.out.cell 0
    have p1 := HK2.out.cell 1
    have p2 := HK2.out.cell 2
    have p3 := HK2.out.cell 3
    have p4 := HK2.out.cell 4
    have p5 := HK2.out.cell 5
    have p6 := HK2.out.cell 6
    clear t5 t6 fz q5 k6 f6 u6 y0
    go_wp2_with (at_builtin; refine wpList_append_own_at _ rfl (.tmp 62) (.tmp 64) 84 84 rfl w.heap.size 88 i0 (.agg #[.int .i64 0, .int .i64 0, .int .i64 0, .int .i64 0, .int .i64 0, .bool false, .slice none 0 0]) 7 72 Tryz.underlying84 hi hi0 hi1 hi2 rfl _ _ _ rfl HO5.out.own _ _ _ rfl HS5.out (by simp only [maxLen]; omega) (vfits72 (by omega)) hsz ?_; intro v6 w6 o6 g6 p6; obtain ⟨a6, c6, rfl⟩ := own_shp o6; replace g6 : World.grownBy _ w6 (Value.slice a1 hl.length c1).ownBlock := g6; replace p6 : (Value.slice a6 (hl.length + 1) c6).ownBlock = (Value.slice a1 hl.length c1).ownBlock ∨ _ := p6; have HO6 := hid o6; have HG6 := hid g6; have HP6 := hid p6; clear o6 g6 p6)
    have HO7 : Hid (OwK 88 w w6 (.slice a6 (hl.length + 1) c6) (hl ++ [x])) := by
     rw [HXX.out] at HAP ⊢
     exact HO5.out.more HX5.out HAP.out HO6.out HG6.out HP6.out
    have HC7 : Hid ((hl ++ [x]).map hcl = (l.take (j + 1)).map (htF F)) := by
     rw [Hid, map_take_any HY.out, List.map_append, HC.out, ← HCL.out]
     rfl
    clear HO5 HS5 HX5 HAP HO6 HG6 HP6
    go_roundw
    case rel => exact ⟨j + 1, hl ++ [x], by go_num, by omega, by rw [List.length_append, HLJ.out]; rfl, HO7.out, HC7.out⟩
    case measure => simp [numOf]; omega
  ·have e1 : decide ((j : Int) < n) = false := decide_eq_false (by omega)
   have e2 : ¬ (j : Int) < n := by omega
   have HE : Hid (hl.map hcl = l.map (htF F)) := by rw [Hid, HC.out, List.take_of_length_le (by rw [HL.out]; omega)]
   go_wp2
   go_ret
   exact ⟨_, rfl, hl, HO.out, HE.out⟩
end
end Go.Proofs.YtkjempffidndeaaGreatDoor
