/- Lemmas that the proof leans on. -/
import Derived.Test.YtkjempffidndeaaGreatDoorB38
import Derived.Test.YtkjempffidndeaaGreatDoorB41
import Derived.Test.YtkjempffidndeaaGreatDoorB42
namespace Go.Proofs.YtkjempffidndeaaGreatDoor
open Go Go.RowKit
set_option maxRecDepth 100000
set_option maxHeartbeats 4000000
section
variable {es : List Addr} {w0 w w' : World} {p q mm : Nat} {F : Fo}
theorem step_any (h : B2q es w0 p q mm F w) (hm : mm ≤ 890) (o : Oq) (ok : o.Ok w0) (hn : o.l.n ≤ 20) :
  Calls Tryz.prog 18 #[.pointer (some ⟨p, 0, none⟩), .pointer (some ⟨q, 0, none⟩), .agg #[.int .i64 o.k, .int .i64 o.id, .int .i64 o.a, .int .i64 o.b, .int .i64 o.x, .int .i64 o.y, .int .i64 o.w, .int .i64 o.h, .slice o.l.a o.l.n o.l.c]] w (StR es w0 p q mm) := by
 have hlo : ∀ y, o.l.a = some y → 0 < o.l.n → y.block < w0.heap.size := fun y hy h0 => by
  obtain ⟨b, off, e, h1, _⟩ := ok.l.pl h0
  rw [e] at hy
  cases hy
  exact h1
 have okw : o.Ok w := ⟨ok.k, ok.id, ok.a, ok.b, ok.x, ok.y, ok.w_, ok.h, ok.l.on h.bel⟩
 have hb := plc_lt o.k 19 (by omega)
 rcases (by omega : plc o.k 19 = 0 ∨ plc o.k 19 = 1 ∨ plc o.k 19 = 2 ∨ plc o.k 19 = 3 ∨ plc o.k 19 = 4 ∨ plc o.k 19 = 5 ∨ plc o.k 19 = 6 ∨ plc o.k 19 = 7 ∨ plc o.k 19 = 8 ∨ plc o.k 19 = 9 ∨ plc o.k 19 = 10 ∨ plc o.k 19 = 11 ∨ plc o.k 19 = 12 ∨ plc o.k 19 = 13 ∨ plc o.k 19 = 14 ∨ plc o.k 19 = 15 ∨ plc o.k 19 = 16 ∨ plc o.k 19 = 17 ∨ plc o.k 19 = 18) with e | e | e | e | e | e | e | e | e | e | e | e | e | e | e | e | e | e | e
 ·exact stp_add h hm o okw e
 ·exact stp_drp h hm o okw e
 ·exact stp_sub2 h hm o okw e
 ·exact stp_sub3 h hm o okw e
 ·exact stp_uns h hm o okw e
 ·exact stp_att h hm o okw e
 ·exact stp_dmg h hm o okw e
 ·exact stp_frm h hm o okw e
 ·by_cases hz : bits .and .i64 o.a 1 = 0
  ·exact stp_inpa h hm o okw e hn ok.l hlo hz
  ·exact stp_inpr h hm o okw e hn ok.l hlo hz
 ·exact stp_pos h hm o okw e
 ·exact stp_abv h hm o okw e
 ·exact stp_blw h hm o okw e
 ·exact stp_syn h hm o okw e
 ·exact stp_com13 h hm o okw e
 ·exact stp_com14 h hm o okw e
 ·exact stp_com15 h hm o okw e
 ·exact stp_com16 h hm o okw e
 ·exact stp_com17 h hm o okw e
 ·exact stp_tak h hm o okw e
end
section
theorem bt1 : Bt 1 := ⟨by decide, by decide⟩
theorem bt7 : Bt 7 := ⟨by decide, by decide⟩
def vaF : Fo := upd (addF [] 1) 1 (attS 7)
theorem va_facts : addE [] 1 = 0 ∧ hasE (addF [] 1) 1 = 0 ∧ hasE vaF 1 = 0 ∧ ofL (comB vaF 1).1 [[7, 2, 3]] [[1, 5, 5]] = [[1, 7, 5, 5, 2, 3]] := by decide
theorem vawake_any {es : List Addr} (w : World) (hE : Fe w es) (hn : 16 ≤ w.heap.size) : Calls Tryz.prog 7 #[] w fun e w' => e = .returned (.bool true) ∧ Below w.heap.size w w' := by
 obtain ⟨a1, a2, a3, a4⟩ := va_facts
 have A1 := hid a1
 have A2 := hid a2
 have A3 := hid a3
 have A4 := hid a4
 have CN := hid (pg_new w w (Below.refl _ _) hE hn)
 clear a1 a2 a3 a4 hE hn
 go_enter Tryz.func7, Tryz.ntmps7
 go_wp2_with fail
 refine CN.out.mono ?_
 rintro e w1 ⟨p, rfl, hp1, -⟩
 have C1 := hid (hp1.add (by omega) 1 bt1)
 rw [A1.out] at C1
 clear hp1 CN
 go_wp2_with fail
 refine C1.out.mono ?_
 rintro e w2 ⟨rfl, hp2⟩
 have C2 := hid (hp2.att (by omega) 1 7 bt1 bt7)
 rw [A2.out] at C2
 rw [erv0]
 clear hp2 C1
 go_wp2_with fail
 refine C2.out.mono ?_
 rintro e w3 ⟨rfl, hp3⟩
 have hp3' : Pg es w w3 p (0 + 1 + 1) vaF := hp3
 have C3' := hid (hp3'.com (by omega) 1 bt1)
 rw [A3.out] at C3'
 rw [erv0]
 clear hp3 hp3' C2
 go_wp2_with fail
 refine C3'.out.mono ?_
 rintro e w4 ⟨va, vc, rfl, -, hp4⟩
 have hb5 := bel_new w4 (.cells #[.int .i64 1, .int .i64 5, .int .i64 5] 46)
 have hb6 := bel_new (w4.alloc (.cells #[.int .i64 1, .int .i64 5, .int .i64 5] 46)) (.cells #[.int .i64 7, .int .i64 2, .int .i64 3] 67)
 have hr1 := (rdm_lit w4 [1, 5, 5] rfl 46).on hb6
 have hr2 := rdm_lit (w4.alloc (.cells #[.int .i64 1, .int .i64 5, .int .i64 5] 46)) [7, 2, 3] rfl 67
 have hp6 := (hp4.on hb5).on hb6
 have CO := hid (vof_any hp6 (by omega) _ 1 1 [[1, 5, 5]] hr1 (fun r hr z hz => by
  simp only [List.mem_cons, List.not_mem_nil, or_false] at hr
  subst hr
  simp only [List.mem_cons, List.not_mem_nil, or_false] at hz
  rcases hz with rfl | rfl | rfl <;> exact ⟨by decide, by decide⟩) (by omega) _ 1 1 [[7, 2, 3]] hr2)
 rw [A4.out] at CO
 have HB := hid hp6.bel
 simp only [World.size_alloc] at CO
 clear hp4 hb5 hb6 hr1 hr2 hp6 C3'
 go_wp2_with fail
 refine CO.out.mono ?_
 rintro e w7 ⟨v, rfl, hv⟩
 obtain ⟨ra, rc, rfl, hrd, -⟩ := hv.rd
 have HB7 := hid (Below.on HB.out hv.bel)
 obtain ⟨b, off, z0, z1, z2, z3, z4, z5, rfl, -, hz, d0, d1, d2, d3, d4, d5⟩ := hrd.el6 (j := 0) (by decide)
 cases hz
 have hg := eqlM6_guard
 have he := eqlM6 1 7 5 5 2 3 1 7 5 5 2 3 w7
 rw [show leq [1, 7, 5, 5, 2, 3] [1, 7, 5, 5, 2, 3] = true from by decide] at he
 simp only [Nat.zero_mul, Nat.add_zero] at d0 d1 d2 d3 d4 d5
 clear hv hrd CO HB
 go_wp2
 go_ret
 exact ⟨rfl, HB7.out⟩
end
section
theorem play_any (a : Option Addr) (n c : Nat) (w : World) (hr : RdQ w a n c) (es : List Addr) (hE : Errs w gerrs es) :
  Calls Tryz.prog 6 #[.slice a n c] w fun e w' => ∃ p q F ok, e = .returned (.tuple #[.pointer (some ⟨p, 0, none⟩), .pointer (some ⟨q, 0, none⟩), .bool ok]) ∧ B2q es w p q 100 F w' := by
 have hn63 : n ≤ 9223372036854775807 := by
  have h1 := hr.le
  have h2 := hr.max
  simp only [maxLen] at h2
  omega
 have HR := hid hr
 have HE := hid hE
 have CN := hid (pq_new w w (Below.refl _ _) (fe_of hE) (ng_of hE))
 clear hr hE
 go_enter Tryz.func6, Tryz.ntmps6
 go_wp2_with fail
 refine CN.out.mono ?_
 rintro e w1 ⟨p, X, rfl, hp1, -, -⟩
 have HP5 : Hid (B2q es w p w1.heap.size 0 [] (w1.alloc (.cells #[.slice none 0 0] 52))) :=
  ⟨⟨_, sbs_new (pq_ft _ _ _ _ _) hp1 ((Below.refl _ _).alloc (Nat.le_refl _) _) (dq_new w w1 hp1.1) (fun b hb => by
   obtain rfl := List.mem_singleton.1 hb
   exact Nat.le_refl _)⟩, HE.out⟩
 clear hp1 CN
 go_wp2
 generalize w1.alloc (.cells #[.slice none 0 0] 52) = w5 at *
 generalize w1.heap.size = q at *
 go_loopw [7] (fun v wr => ∃ (j : Nat) (F : Fo), v = .int .i64 (j : Int) ∧ j ≤ n ∧ j ≤ 50 ∧ B2q es w p q (2 * j) F wr) (fun v _ => 51 - (numOf v).toNat)
 case atStart => exact ⟨0, [], rfl, by omega, by omega, HP5.out⟩
 case round =>
  obtain ⟨j, F, rfl, hj, hj60, hp⟩ := hrel
  clear HP5
  have hbw := hp.bel
  by_cases hgo : j < n ∧ j < 50
  ·obtain ⟨hgo1, hgo2⟩ := hgo
   have e1 : decide ((j : Int) < (n : Int)) = true := decide_eq_true (by omega)
   have e2 : decide ((j : Int) < 50) = true := decide_eq_true (by omega)
   have e3 : (j : Int) < (n : Int) := by omega
   obtain ⟨b, off, o, rfl, hlt, hc, ok⟩ := HR.out.each j hgo1
   have cc : ∀ i, i < 9 → wr.cell? ⟨b, off + j * 9 + i, none⟩ = (oqc o)[i]? := fun i hi => by rw [hbw.cell hlt]; exact hc i hi
   have hlr : b < wr.heap.size := Nat.lt_of_lt_of_le hlt hbw.size
   have t0 : wr.cell? ⟨b, off + j * 9, none⟩ = some (.int .i64 o.k) := cc 0 (by omega)
   have t1 : wr.cell? ⟨b, off + j * 9 + 1, none⟩ = some (.int .i64 o.id) := cc 1 (by omega)
   have t2 : wr.cell? ⟨b, off + j * 9 + 2, none⟩ = some (.int .i64 o.a) := cc 2 (by omega)
   have t3 : wr.cell? ⟨b, off + j * 9 + 3, none⟩ = some (.int .i64 o.b) := cc 3 (by omega)
   have t4 : wr.cell? ⟨b, off + j * 9 + 4, none⟩ = some (.int .i64 o.x) := cc 4 (by omega)
   have t5 : wr.cell? ⟨b, off + j * 9 + 5, none⟩ = some (.int .i64 o.y) := cc 5 (by omega)
   have t6 : wr.cell? ⟨b, off + j * 9 + 6, none⟩ = some (.int .i64 o.w) := cc 6 (by omega)
   have t7 : wr.cell? ⟨b, off + j * 9 + 7, none⟩ = some (.int .i64 o.h) := cc 7 (by omega)
   have t8 : wr.cell? ⟨b, off + j * 9 + 8, none⟩ = some (.slice o.l.a o.l.n o.l.c) := cc 8 (by omega)
   by_cases h20 : o.l.n ≤ 20
   ·have e4 : decide ((20 : Int) < (o.l.n : Int)) = false := decide_eq_false (by omega)
    have CS := hid (step_any hp (by omega) o ok h20)
    clear hp cc hc ok hlt hbw h20
    go_wp2_with fail
    refine CS.out.mono ?_
    rintro e W2 ⟨rfl, F2, hF2⟩
    have HF := hid hF2
    clear hF2 CS t0 t1 t2 t3 t4 t5 t6 t7 t8
    go_wp2
    go_roundw
    case rel => exact ⟨j + 1, F2, by go_num, by omega, by omega, HF.out.mono (by omega)⟩
    case measure => simp [numOf]; omega
   ·have e4 : decide ((20 : Int) < (o.l.n : Int)) = true := decide_eq_true (by omega)
    have HF := hid (hp.mono (n := 100) (by omega))
    clear hp cc hc ok hlt hbw h20
    go_wp2
    go_ret3
    exact ⟨p, q, F, false, rfl, HF.out⟩
  ·have HF := hid (hp.mono (n := 100) (by omega))
   clear hp hbw
   have gg : (j < n ∧ (j : Int) < n ∧ decide ((j : Int) < n) = true ∧ ¬ j < 50 ∧ decide ((j : Int) < 50) = false) ∨ (¬ j < n ∧ decide ((j : Int) < n) = false) := by
    rcases Nat.lt_or_ge j n with h | h
    ·exact .inl ⟨h, by omega, decide_eq_true (by omega), by omega, decide_eq_false (by omega)⟩
    ·exact .inr ⟨by omega, decide_eq_false (by omega)⟩
   clear hgo
   rcases gg with ⟨e1, e2, e3, e4, e5⟩ | ⟨e1, e3⟩
   all_goals
    go_wp2
    go_ret3
    exact ⟨p, q, F, true, rfl, HF.out⟩
end
section
theorem B2q.pg {es : List Addr} {w0 w : World} {p q mm : Nat} {F : Fo} (h : B2q es w0 p q mm F w) : Pg es w0 w p mm F := by
 obtain ⟨_, X, Y, h1, h2, _⟩ := h.ex
 exact h1.pg
theorem B2q.dq {es : List Addr} {w0 w : World} {p q mm : Nat} {F : Fo} (h : B2q es w0 p q mm F w) : ∃ Z, Dq w0 q mm F w Z := by
 obtain ⟨_, X, Y, h1, h2, _⟩ := h.ex
 exact ⟨Y, h2⟩
theorem edg_small {z : Int} (h : 0 ≤ z) (h' : z < 1000) : edg z = z := by unfold edg; omega
theorem ofL_one (F : Fo) (zs : List (List Int)) (r : List Int) : ofL F zs [r] = (snr F r).map (vwv F zs) := by simp [ofL, snL]
theorem mov_len (F : Fo) (zs : List (List Int)) (root x y : Int) : (ofL F zs [[root, x, y]]).length = (ofL F zs [[root, 0, 0]]).length := by
 rw [ofL_one, ofL_one, List.length_map, List.length_map, snr, snr, List.length_map, List.length_map]
 rfl
theorem mov_at {F : Fo} {m : Nat} (hZ : Szf m F) (zs : List (List Int)) (root : Int) {x y : Int} (hx : 0 ≤ x) (hx' : x < 1000) (hy : 0 ≤ y) (hy' : y < 1000) {i : Nat} {z0 z1 z2 z3 z4 z5 : Int} (h : (ofL F zs [[root, 0, 0]])[i]? = some [z0, z1, z2, z3, z4, z5]) :
  (ofL F zs [[root, x, y]])[i]? = some [z0, z1, z2 + x, z3 + y, z4, z5] ∧ -687865856 ≤ z2 ∧ z2 ≤ 687865856 ∧ -687865856 ≤ z3 ∧ z3 ≤ 687865856 := by
 rw [ofL_one, List.getElem?_map, snr, List.getElem?_map] at h
 rw [ofL_one, List.getElem?_map, snr, List.getElem?_map]
 cases hc : (wlk F 41 (nm 0 [root, 0, 0]) 0 0)[i]? with
 | none => rw [hc] at h; cases h
 | some c =>
  have hc' : (wlk F 41 (nm 0 [root, x, y]) 0 0)[i]? = some c := hc
  obtain ⟨a, b, d, rfl, h1, h2, h3, h4⟩ := wlk_far0 hZ _ c (List.mem_of_getElem? hc)
  rw [hc] at h
  rw [hc']
  obtain ⟨s, t, hs⟩ := szf_two zs (bufF F a)
  simp only [Option.map_some, vwv, nm, List.getD_cons_zero, List.getD_cons_succ, hs, List.cons_append, List.nil_append, Option.some.injEq, List.cons.injEq, and_true, edg_small hx hx', edg_small hy hy', show edg 0 = 0 from rfl] at h ⊢
  obtain ⟨e0, e1, e2, e3, e4, e5⟩ := h
  omega
theorem bts3 {z0 z1 z2 : Int} (h0 : Bt z0) (h1 : Bt z1) (h2 : Bt z2) : ∀ r ∈ [[z0, z1, z2]], ∀ z ∈ r, Bt z := fun r hr z hz => by
 simp only [List.mem_cons, List.not_mem_nil, or_false] at hr
 subst hr
 simp only [List.mem_cons, List.not_mem_nil, or_false] at hz
 rcases hz with rfl | rfl | rfl
 ·exact h0
 ·exact h1
 ·exact h2
theorem ofL_two (F : Fo) (zs : List (List Int)) (r t : List Int) : ofL F zs [r, t] = ofL F zs [r] ++ ofL F zs [t] := by
 rw [ofL_one, ofL_one, ← List.map_append]
 simp [ofL, snL]
theorem ofL_len {F : Fo} (hI : Inv F) (hN : Nof F) (zs : List (List Int)) (r : List Int) : (ofL F zs [r]).length ≤ 40 := by
 rw [ofL_one, List.length_map]
 exact snr_len hI hN r
theorem rt_at {F : Fo} (hI : Inv F) (zs : List (List Int)) (r : List Int) {i : Nat} {z0 z1 z2 z3 z4 z5 : Int} (h : (ofL F zs [r])[i]? = some [z0, z1, z2, z3, z4, z5]) : rtF F z0 = rtF F (nm 0 r) ∧ z1 ≠ 0 ∧ ∃ s, gt F z0 = some s := by
 rw [ofL_one, List.getElem?_map, snr, List.getElem?_map] at h
 cases hc : (wlk F 41 (nm 0 r) 0 0)[i]? with
 | none => rw [hc] at h; cases h
 | some c =>
  have hm := List.mem_of_getElem? hc
  obtain ⟨s, h1, h2⟩ := wlk_buf _ _ _ _ c hm
  have h3 := hI.wlk_rt _ _ _ _ c hm
  rw [hc] at h
  obtain ⟨q, t, hs⟩ := szf_two zs (bufF F (nm 0 c))
  have e0 : nm 0 c = z0 := by
   simp only [Option.map_some, vwv, nm, List.getD_cons_zero, List.cons_append, Option.some.injEq, List.cons.injEq] at h
   exact h.1
  have e1 : bufF F (nm 0 c) = z1 := by
   simp only [Option.map_some, vwv, nm, List.getD_cons_zero, List.cons_append, Option.some.injEq, List.cons.injEq] at h
   exact h.2.1
  rw [← e0, ← e1, bufF_some h1]
  exact ⟨h3, h2, s, h1⟩
theorem rdm_lits {m : Nat} (w : World) (ys : List (List Int)) (hy : ∀ y ∈ ys, y.length = m) (hl : ys.length ≤ 1000) (T : Nat) : RdM m (w.alloc (.cells (mcs ys).toArray T)) (some ⟨w.heap.size, 0, none⟩) ys.length ys.length ys :=
 ⟨rfl, Nat.le_refl _, by simp only [maxLen]; omega, (fun h => by cases h), fun _ => ⟨w.heap.size, 0, rfl, by simp, fun j y' hj i z hz => by
  rw [Nat.zero_add, Lib.cell_of_heap (heap_alloc_new w _), List.getElem?_toArray]
  exact mcs_at hy hj hz⟩, hy⟩
theorem bts6 {z0 z1 z2 y0 y1 y2 : Int} (h0 : Bt z0) (h1 : Bt z1) (h2 : Bt z2) (g0 : Bt y0) (g1 : Bt y1) (g2 : Bt y2) : ∀ r ∈ [[z0, z1, z2], [y0, y1, y2]], ∀ z ∈ r, Bt z := fun r hr z hz => by
 simp only [List.mem_cons, List.not_mem_nil, or_false] at hr
 rcases hr with rfl | rfl
 ·exact bts3 h0 h1 h2 _ (by simp) z hz
 ·exact bts3 g0 g1 g2 _ (by simp) z hz
end
end Go.Proofs.YtkjempffidndeaaGreatDoor
