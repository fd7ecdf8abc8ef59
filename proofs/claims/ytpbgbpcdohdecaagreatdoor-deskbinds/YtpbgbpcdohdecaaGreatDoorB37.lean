/- Lemmas that the proof leans on. -/
import Derived.Test.YtpbgbpcdohdecaaGreatDoorB36
namespace Go.Proofs.YtpbgbpcdohdecaaGreatDoor
open Go Go.RowKit
set_option maxRecDepth 100000
set_option maxHeartbeats 1000000
section
section
variable {es : List Addr} {w0 w w' : World} {a : Da} {c : Ca} {i : Int} {k k1 k' : Kl} {mm : Nat} {d : Dsk} {X Z : List Nat}
theorem nil_of_ris {ys : List Int} (h : ∀ x, x ∈ ys ↔ 0 < x ∧ x ∈ hldL []) : ys = [] := by
 cases ys with
 | nil => rfl
 | cons y ys => exact absurd ((h y).1 (List.mem_cons_self ..)).2 (by simp [hldL])
theorem rdi_none {x : Option Addr} {n : Nat} (h : Rz w x ([] : List Int).length n []) : RdI .i64 w x 0 n [] := ⟨rfl, h.le, h.max, h.hnil, fun _ _ j hj => absurd hj (by omega), by simp⟩
theorem rel_quiet (h : Dke es w0 a mm d w Z) (hu : d.us = []) (hf : d.fo = []) : Calls Tryz.prog 30 #[ptz a.p] w fun e w' => (∃ v, e = .returned v) ∧ Nx (Dke es w0 a mm d) Z w w' := by
 obtain ⟨_, ⟨_, _, v, hv, _⟩, _⟩ := h.td
 have lp : a.p < w.heap.size := (Array.getElem?_eq_some_iff.1 hv).1
 have c8 : w.cell? ⟨a.p, 8, none⟩ = some (ptz a.us) := by rw [Lib.cell_of_heap hv]; rfl
 have c9 : w.cell? ⟨a.p, 9, none⟩ = some (ptz a.fo) := by rw [Lib.cell_of_heap hv]; rfl
 have HL : Hid (Calls Tryz.prog 54 #[ptz a.fo] w.drew fun e w' => ∃ a c ys, e = .returned (.slice a ys.length c) ∧ Rz w' a ys.length c ys ∧ Ris ys ∧ (∀ x, x ∈ ys ↔ 0 < x ∧ x ∈ hldL []) ∧ Below w.drew.heap.size w.drew w') := by
  obtain ⟨Y, hY, _⟩ := ((dt_ft es w0 a mm d).on h (Below.refl _ _).drew : Dke es w0 a mm d w.drew Z).at_ 5 rfl
  rw [hf] at hY
  exact hY.pg.hld
 have HW : Hid (∀ u, Below w.heap.size w u → ∀ x n, RdI .i64 u x 0 n [] → Calls Tryz.prog 53 #[ptz a.us, .slice x 0 n] u fun e w' => (∃ y m, e = .returned (.slice y 0 m)) ∧ Nx (Dke es w0 a mm d) Z w w') := fun u hb x n hr => by
  have hu2 := (dt_ft es w0 a mm d).on h hb
  obtain ⟨Y, hY, _, hN⟩ := (ldt_at (d' := d) (n := mm) (A' := Tu w0 a.us d.us d.told) 4 rfl (fun _ _ h => h) rfl (fun h => h) : Ln (Dke es w0 a mm d) (Tu w0 a.us d.us d.told) (Dke es w0 a mm d) (Tu w0 a.us d.us d.told)) u Z hu2
  rw [hu] at hY
  refine (tu_now hY x 0 n [] hr (by decide) (by decide) (by have := h.1.1.told; have := h.1.1.mx; omega)).mono fun e w' ⟨y, h1, h2, X', h3, h4, h5, _⟩ => ⟨?_, Nx.before (hN w' ?_) hb⟩
  ·rcases h2.2 with ⟨rfl, _⟩ | ⟨g, cap, cur, rfl, _⟩
   ·exact ⟨_, _, h1⟩
   ·exact ⟨_, _, h1⟩
  ·rw [hu]
   rw [setOf_nil, gone, List.filter_nil, List.append_nil] at h3
   exact ⟨X', h3, h4, h5⟩
 clear h hv hu hf
 go_enter Tryz.func30, Tryz.ntmps30
 go_wp2_with fail
 have hHeld := (⟨c8, c9⟩ : w.drew.cell? ⟨a.p, 8, none⟩ = some (ptz a.us) ∧ w.drew.cell? ⟨a.p, 9, none⟩ = some (ptz a.fo))
 refine wp_region_held_drew (S := fun x0 => x0.cell? ⟨a.p, 8, none⟩ = some (ptz a.us) ∧ x0.cell? ⟨a.p, 9, none⟩ = some (ptz a.fo)) (by kernel_rfl) hHeld (fun _ => ?_)
 refine wpAnyH_take (i := 0) (v := ?_) rfl (by kernel_rfl) (by kernel_rfl) (by kernel_rfl) (fun _ _ _ h => h) (Or.inl ⟨by kernel_rfl, ?hy0⟩) (by assumption) ?_
 case hy0 => (intro w hSw; (try dsimp only at hSw); obtain ⟨t8, t9⟩ := hSw; go_simp; try with_reducible rfl)
 try simp only [Act.put, List.getElem_toArray, List.getElem_cons_zero, List.setIfInBounds_toArray, List.set_cons_zero, List.set_cons_succ]
 refine wpAnyH_take (i := 1) (v := ?_) rfl (by kernel_rfl) (by kernel_rfl) (by kernel_rfl) (fun _ _ _ h => h) (Or.inl ⟨by kernel_rfl, ?hy1⟩) (by assumption) ?_
 case hy1 => (intro w hSw; (try dsimp only at hSw); obtain ⟨t8, t9⟩ := hSw; go_simp; try with_reducible rfl)
 try simp only [Act.put, List.getElem_toArray, List.getElem_cons_zero, List.getElem_cons_succ, List.setIfInBounds_toArray, List.set_cons_zero, List.set_cons_succ]
 refine wpAnyH_take (i := 2) (v := ?_) rfl (by kernel_rfl) (by kernel_rfl) (by kernel_rfl) (fun _ _ _ h => h) (Or.inl ⟨by kernel_rfl, ?hy2⟩) (by assumption) ?_
 case hy2 => (intro w hSw; (try dsimp only at hSw); obtain ⟨t8, t9⟩ := hSw; go_simp; try with_reducible rfl)
 try simp only [Act.put, List.getElem_toArray, List.getElem_cons_zero, List.getElem_cons_succ, List.setIfInBounds_toArray, List.set_cons_zero, List.set_cons_succ]
 refine wpAnyH_take (i := 3) (v := ?_) rfl (by kernel_rfl) (by kernel_rfl) (by kernel_rfl) (fun _ _ _ h => h) (Or.inl ⟨by kernel_rfl, ?hy3⟩) (by assumption) ?_
 case hy3 => (intro w hSw; (try dsimp only at hSw); obtain ⟨t8, t9⟩ := hSw; go_simp; try with_reducible rfl)
 try simp only [Act.put, List.getElem_toArray, List.getElem_cons_zero, List.getElem_cons_succ, List.setIfInBounds_toArray, List.set_cons_zero, List.set_cons_succ]
 refine wpAnyH_take (i := 4) (v := ?_) rfl (by kernel_rfl) (by kernel_rfl) (by kernel_rfl) (fun _ _ _ h => h) (Or.inl ⟨by kernel_rfl, ?hy4⟩) (by assumption) ?_
 case hy4 => (intro w hSw; (try dsimp only at hSw); obtain ⟨t8, t9⟩ := hSw; go_simp; try with_reducible rfl)
 try simp only [Act.put, List.getElem_toArray, List.getElem_cons_zero, List.getElem_cons_succ, List.setIfInBounds_toArray, List.set_cons_zero, List.set_cons_succ]
 refine wpAnyH_take (i := 5) (v := ?_) rfl (by kernel_rfl) (by kernel_rfl) (by kernel_rfl) (fun _ _ _ h => h) (Or.inl ⟨by kernel_rfl, ?hy5⟩) (by assumption) ?_
 case hy5 => (intro w hSw; (try dsimp only at hSw); obtain ⟨t8, t9⟩ := hSw; go_simp; try with_reducible rfl)
 try simp only [Act.put, List.getElem_toArray, List.getElem_cons_zero, List.getElem_cons_succ, List.setIfInBounds_toArray, List.set_cons_zero, List.set_cons_succ]
 refine wpAnyH_take (i := 6) (v := ?_) rfl (by kernel_rfl) (by kernel_rfl) (by kernel_rfl) (fun _ _ _ h => h) (Or.inl ⟨by kernel_rfl, ?hy6⟩) (by assumption) ?_
 case hy6 => (intro w hSw; (try dsimp only at hSw); obtain ⟨t8, t9⟩ := hSw; go_simp; try with_reducible rfl)
 try simp only [Act.put, List.getElem_toArray, List.getElem_cons_zero, List.getElem_cons_succ, List.setIfInBounds_toArray, List.set_cons_zero, List.set_cons_succ]
 refine wpAnyH_take (i := 7) (v := ?_) rfl (by kernel_rfl) (by kernel_rfl) (by kernel_rfl) (fun _ _ _ h => h) (Or.inl ⟨by kernel_rfl, ?hy7⟩) (by assumption) ?_
 case hy7 => (intro w hSw; (try dsimp only at hSw); obtain ⟨t8, t9⟩ := hSw; go_simp; try with_reducible rfl)
 try simp only [Act.put, List.getElem_toArray, List.getElem_cons_zero, List.getElem_cons_succ, List.setIfInBounds_toArray, List.set_cons_zero, List.set_cons_succ]
 refine wpAnyH_take (i := 11) (v := ?_) rfl (by kernel_rfl) (by kernel_rfl) (by kernel_rfl) (fun _ _ _ h => h) (Or.inl ⟨by kernel_rfl, ?hy11⟩) (by assumption) ?_
 case hy11 => (intro w hSw; (try dsimp only at hSw); obtain ⟨t8, t9⟩ := hSw; go_simp; try with_reducible rfl)
 try simp only [Act.put, List.getElem_toArray, List.getElem_cons_zero, List.getElem_cons_succ, List.setIfInBounds_toArray, List.set_cons_zero, List.set_cons_succ]
 refine wpAnyH_ready (rs := [8]) (by kernel_rfl) (by simp) ?_
 refine AllReadyH.cons rfl (fun K hK => ?_) AllReadyH.nil
 go_simp
 go_wp2_with fail
 refine HL.out.mono ?_
 rintro e u8 ⟨xa, xc, ys, rfl, hz8, hr8, hm8, hb8⟩
 have hS8 := (⟨(hb8.cell lp).trans hHeld.1, (hb8.cell lp).trans hHeld.2⟩ : u8.cell? ⟨a.p, 8, none⟩ = some (ptz a.us) ∧ u8.cell? ⟨a.p, 9, none⟩ = some (ptz a.fo))
 obtain rfl : ys = [] := nil_of_ris hm8
 have HN8 := hid (HW.out u8 (Below.on (Below.refl _ _).drew hb8) xa xc (rdi_none hz8))
 refine hK.out _ _ hS8 (fun _ => ?_)
 clear hK K hHeld hm8 hr8 hz8 hb8
 have hHeld := hS8
 clear hS8
 try simp only [Act.put, List.getElem_toArray, List.getElem_cons_zero, List.getElem_cons_succ, List.setIfInBounds_toArray, List.set_cons_zero, List.set_cons_succ]
 refine wpAnyH_ready (rs := [9]) (by kernel_rfl) (by simp) ?_
 refine AllReadyH.cons rfl (fun K hK => ?_) AllReadyH.nil
 go_simp
 go_wp2_with fail
 refine HN8.out.mono ?_
 rintro e u9 ⟨⟨va, vc, rfl⟩, hN9⟩
 have HN9 := hid hN9
 have hS9 : u9.cell? ⟨a.p, 8, none⟩ = some (ptz a.us) ∧ u9.cell? ⟨a.p, 9, none⟩ = some (ptz a.fo) := (by obtain ⟨X9, q1, _⟩ := hN9; obtain ⟨_, ⟨_, _, v9, q2, _⟩, _⟩ := q1.td; exact ⟨(by rw [Lib.cell_of_heap q2]; rfl), (by rw [Lib.cell_of_heap q2]; rfl)⟩)
 refine hK.out _ _ hS9 (fun _ => ?_)
 clear hK K hN9 HN8
 try simp only [Act.put, List.getElem_toArray, List.getElem_cons_zero, List.getElem_cons_succ, List.setIfInBounds_toArray, List.set_cons_zero, List.set_cons_succ]
 refine wpAnyH_take (i := 10) (v := ?_) rfl (by kernel_rfl) (by kernel_rfl) (by kernel_rfl) (fun _ _ _ h => h) (Or.inl ⟨by kernel_rfl, ?hy10⟩) (by assumption) ?_
 case hy10 => (intro w hSw; (try dsimp only at hSw); obtain ⟨t8, t9⟩ := hSw; go_simp; try with_reducible rfl)
 try simp only [Act.put, List.getElem_toArray, List.getElem_cons_zero, List.getElem_cons_succ, List.setIfInBounds_toArray, List.set_cons_zero, List.set_cons_succ]
 refine wpAnyH_done (by kernel_rfl) ?_ _
 clear HL HW c8 c9 lp hHeld
 go_wp2
 go_loopw [16] (fun v wr => v = .int .i64 0 ∧ wr = u9) (fun _ _ => 0)
 case atStart => exact ⟨rfl, rfl⟩
 obtain ⟨rfl, rfl⟩ := hrel
 go_wp2
 go_end0
 exact ⟨⟨_, rfl⟩, HN9.out⟩
end
end
section
section
variable {es : List Addr} {w0 w w' : World} {a : Da} {c : Ca} {i : Int} {k k1 k' : Kl} {mm n : Nat} {d d' : Dsk} {X Z : List Nat}
theorem dke_bel (h : Dke es w0 a mm d w Z) : RowKit.Below w0.heap.size w0 w := by
 obtain ⟨_, ⟨q, _⟩, _⟩ := h.td
 exact q
theorem Hnd_nil (h : Dke es w0 a mm d w Z) (hk : d.kli i = some k) (hc : a.cs[(i - 1).toNat]? = some (some c)) (hi : -9223372036854775808 ≤ i ∧ i ≤ 9223372036854775807) (o q : Int) (t : ByteArray) (hu : d'.us = []) (hf : d'.fo = [])
  (hH : ∀ u, Below w.heap.size w u → Calls Tryz.prog 28 #[ptz a.p, ptz c.q, .agg #[.int .i64 o, .int .i64 q, .string t]] u fun e w' => e = .returned .nilIface ∧ Nx (Dke es w0 a n d') Z u w') :
  Calls Tryz.prog 6 #[ptz a.p, .int .i64 i, .agg #[.int .i64 o, .int .i64 q, .string t]] w fun e w' => e = .returned .nilIface ∧ Nx (Dke es w0 a n d') Z w w' := by
 have hb0 := bel_mkK w (.cells #[.int .i64 o, .int .i64 q, .string t] 31)
 have hv0 := heap_alloc_new w (.cells #[.int .i64 o, .int .i64 q, .string t] 31)
 have lw : w.heap.size < (w.alloc (.cells #[.int .i64 o, .int .i64 q, .string t] 31)).heap.size := (Array.getElem?_eq_some_iff.1 hv0).1
 have hC := dcli_any ((dt_ft es w0 a mm d).on h hb0) i hi
 rw [clq_some hk hc] at hC
 have HC := hid hC
 have HB := hid hb0
 have HV := hid hv0
 have HH := hid hH
 have HR := hid (fun (u : World) (Y : List Nat) (hY : Dke es w0 a n d' u Y) => rel_quiet hY hu hf)
 clear h hk hc hb0 hv0 hC hH hu hf
 go_enter Tryz.func6, Tryz.ntmps6
 go_wp2_with fail
 generalize (w.alloc (.cells #[.int .i64 o, .int .i64 q, .string t] 31)) = W at *
 refine HC.out.mono ?_
 rintro e u1 ⟨rfl, hb1⟩
 have hv1 := (kp_of_below hb1 []).var HV.out (by simp)
 have c0 : u1.cell? ⟨w.heap.size, 0, none⟩ = some (.int .i64 o) := by rw [Lib.cell_of_heap hv1]; rfl
 have c1 : u1.cell? ⟨w.heap.size, 1, none⟩ = some (.int .i64 q) := by rw [Lib.cell_of_heap hv1]; rfl
 have c2 : u1.cell? ⟨w.heap.size, 2, none⟩ = some (.string t) := by rw [Lib.cell_of_heap hv1]; rfl
 have l1 : w.heap.size < u1.heap.size := (Array.getElem?_eq_some_iff.1 hv1).1
 have hB1 := Below.on HB.out hb1
 have HH1 := hid (HH.out u1 hB1)
 have HB1 := hid hB1
 clear hb1 hv1 HC HH HB HV hB1
 go_wp2_with fail
 refine HH1.out.mono ?_
 rintro e u2 ⟨rfl, hN⟩
 obtain ⟨Y, q1, q2, q3⟩ := Nx.before hN HB1.out
 have HR2 := hid (HR.out u2 Y q1)
 have HN2 := hid (fun w' (hn : Nx (Dke es w0 a n d') Y u2 w') => (Nx.trans ⟨q1, q2, q3⟩ hn : Nx (Dke es w0 a n d') Z w w'))
 clear hN q1 q2 q3 HR HH1 c0 c1 c2 l1
 go_wp2_with fail
 refine HR2.out.mono ?_
 rintro e u3 ⟨⟨v3, rfl⟩, hN3⟩
 have HN3 := hid (HN2.out u3 hN3)
 clear hN3 HN2 HR2
 go_wp2_with fail
 go_ret
 exact ⟨rfl, HN3.out⟩
theorem Hnd_bare (hA : All w0 es) (h : Dke es w0 a mm d w Z) (hk : d.kli i = some k) (hc : a.cs[(i - 1).toNat]? = some (some c)) (hi : -9223372036854775808 ≤ i ∧ i ≤ 9223372036854775807) (o q : Int) (t : ByteArray) (kk : Nat) (k1 : 1 ≤ kk) (k16 : kk ≤ 16)
  (hH : ∀ u, Below w.heap.size w u → Calls Tryz.prog 28 #[ptz a.p, ptz c.q, .agg #[.int .i64 o, .int .i64 q, .string t]] u fun e w' => e = .returned (erv es kk) ∧ Nx (Dke es w0 a mm d) Z u w') :
  Calls Tryz.prog 6 #[ptz a.p, .int .i64 i, .agg #[.int .i64 o, .int .i64 q, .string t]] w fun e w' => ∃ v, e = .returned v ∧ FtV w' es v o kk ∧ Nx (Dke es w0 a mm d) Z w w' := by
 have hb0 := bel_mkK w (.cells #[.int .i64 o, .int .i64 q, .string t] 31)
 have hv0 := heap_alloc_new w (.cells #[.int .i64 o, .int .i64 q, .string t] 31)
 have lw : w.heap.size < (w.alloc (.cells #[.int .i64 o, .int .i64 q, .string t] 31)).heap.size := (Array.getElem?_eq_some_iff.1 hv0).1
 have hC := dcli_any ((dt_ft es w0 a mm d).on h hb0) i hi
 rw [clq_some hk hc] at hC
 have HC := hid hC
 have HB := hid hb0
 have HV := hid hv0
 have HH := hid hH
 have HA := hid hA
 have HZ := hid (fun hm => absurd ((dt_ft es w0 a mm d).lt h _ hm).2 (Nat.lt_irrefl _) : w.heap.size ∉ Z)
 clear h hk hc hb0 hv0 hC hH hA
 go_enter Tryz.func6, Tryz.ntmps6
 go_wp2_with fail
 generalize (w.alloc (.cells #[.int .i64 o, .int .i64 q, .string t] 31)) = W at *
 refine HC.out.mono ?_
 rintro e u1 ⟨rfl, hb1⟩
 have hv1 := (kp_of_below hb1 []).var HV.out (by simp)
 have c0 : u1.cell? ⟨w.heap.size, 0, none⟩ = some (.int .i64 o) := by rw [Lib.cell_of_heap hv1]; rfl
 have c1 : u1.cell? ⟨w.heap.size, 1, none⟩ = some (.int .i64 q) := by rw [Lib.cell_of_heap hv1]; rfl
 have c2 : u1.cell? ⟨w.heap.size, 2, none⟩ = some (.string t) := by rw [Lib.cell_of_heap hv1]; rfl
 have l1 : w.heap.size < u1.heap.size := (Array.getElem?_eq_some_iff.1 hv1).1
 have hB1 := Below.on HB.out hb1
 have HH1 := hid (HH.out u1 hB1)
 have HB1 := hid hB1
 have HV1 := hid hv1
 clear hb1 hv1 HC HH HB HV hB1
 go_wp2_with fail
 refine HH1.out.mono ?_
 rintro e u2 ⟨rfl, hN⟩
 have g0 : u2.cell? ⟨w.heap.size, 0, none⟩ = some (.int .i64 o) := by
  obtain ⟨_, _, q2, _⟩ := hN
  rw [Lib.cell_of_heap (q2.var HV1.out HZ.out)]
  rfl
 have l2 : w.heap.size < u2.heap.size := World.block_lt_of_cell? _ _ g0
 obtain ⟨Y, q1, q2, q3⟩ := Nx.before hN HB1.out
 have HBL := hid (blame_er (HA.out.below (dke_bel q1)) (.inl rfl : Er_WireB es (erv es kk) kk) k1 k16 o)
 have HN2 := hid (And.intro q1 (And.intro q2 q3))
 obtain ⟨t9, y9, h9⟩ := erv_if es k1
 rw [h9] at HBL ⊢
 clear hN q1 q2 q3 HH1 c0 c1 c2 l1
 go_wp2_with fail
 refine HBL.out.mono ?_
 rintro e z1 ⟨v1, rfl, hF1, hb1⟩
 have HF1 := hid hF1
 have HBz := hid hb1
 clear hF1 hb1 HBL
 go_wp2_with fail
 go_ret
 exact ⟨v1, rfl, HF1.out, Nx.more (dt_ft es w0 a mm d) ⟨Y, HN2.out⟩ HBz.out⟩
theorem Hnd_ft (hA : All w0 es) (h : Dke es w0 a mm d w Z) (hk : d.kli i = some k) (hc : a.cs[(i - 1).toNat]? = some (some c)) (hi : -9223372036854775808 ≤ i ∧ i ≤ 9223372036854775807) (o q : Int) (t : ByteArray) (o1 : Int) (kk : Nat)
  (hH : ∀ u, Below w.heap.size w u → Calls Tryz.prog 28 #[ptz a.p, ptz c.q, .agg #[.int .i64 o, .int .i64 q, .string t]] u fun e w' => ∃ v, e = .returned v ∧ FtV w' es v o1 kk ∧ Below u.heap.size u w') :
  Calls Tryz.prog 6 #[ptz a.p, .int .i64 i, .agg #[.int .i64 o, .int .i64 q, .string t]] w fun e w' => ∃ v, e = .returned v ∧ FtV w' es v o1 kk ∧ Nx (Dke es w0 a mm d) Z w w' := by
 have hb0 := bel_mkK w (.cells #[.int .i64 o, .int .i64 q, .string t] 31)
 have hv0 := heap_alloc_new w (.cells #[.int .i64 o, .int .i64 q, .string t] 31)
 have lw : w.heap.size < (w.alloc (.cells #[.int .i64 o, .int .i64 q, .string t] 31)).heap.size := (Array.getElem?_eq_some_iff.1 hv0).1
 have hC := dcli_any ((dt_ft es w0 a mm d).on h hb0) i hi
 rw [clq_some hk hc] at hC
 have HC := hid hC
 have HB := hid hb0
 have HV := hid hv0
 have HH := hid hH
 have HA := hid (hA.below (dke_bel h))
 have HD := hid h
 clear h hk hc hb0 hv0 hC hH hA
 go_enter Tryz.func6, Tryz.ntmps6
 go_wp2_with fail
 generalize (w.alloc (.cells #[.int .i64 o, .int .i64 q, .string t] 31)) = W at *
 refine HC.out.mono ?_
 rintro e u1 ⟨rfl, hb1⟩
 have hv1 := (kp_of_below hb1 []).var HV.out (by simp)
 have c0 : u1.cell? ⟨w.heap.size, 0, none⟩ = some (.int .i64 o) := by rw [Lib.cell_of_heap hv1]; rfl
 have c1 : u1.cell? ⟨w.heap.size, 1, none⟩ = some (.int .i64 q) := by rw [Lib.cell_of_heap hv1]; rfl
 have c2 : u1.cell? ⟨w.heap.size, 2, none⟩ = some (.string t) := by rw [Lib.cell_of_heap hv1]; rfl
 have l1 : w.heap.size < u1.heap.size := (Array.getElem?_eq_some_iff.1 hv1).1
 have hB1 := Below.on HB.out hb1
 have HH1 := hid (HH.out u1 hB1)
 have HB1 := hid hB1
 clear hb1 hv1 HC HH HB HV hB1
 go_wp2_with fail
 refine HH1.out.mono ?_
 rintro e u2 ⟨v2, rfl, hF2, hb2⟩
 have g0 := (hb2.cell l1).trans c0
 have l2 : w.heap.size < u2.heap.size := World.block_lt_of_cell? _ _ g0
 have HB2 := hid (Below.on HB1.out hb2)
 have HBL := hid (blame_ft hF2 (HA.out.below HB2.out) o)
 have HF2 := hid hF2
 obtain ⟨b, y, rfl, _⟩ := hF2.ex
 clear hF2 hb2 HH1 c0 c1 c2 l1
 go_wp2_with fail
 refine HBL.out.mono ?_
 rintro e z1 ⟨rfl, hb1⟩
 have HBz := hid hb1
 clear hb1 HBL
 go_wp2_with fail
 go_ret
 exact ⟨_, rfl, HF2.out.on HBz.out, Nx.refl (dt_ft es w0 a mm d) HD.out (Below.on HB2.out HBz.out)⟩
end
end
section
def plc_WireK (v : Int) (n : Nat) : Nat := (v % n).toNat
theorem plc_lt_WireK (v : Int) (n : Nat) (h : 0 < n) : plc_WireK v n < n := by
 have h1 := Int.emod_nonneg v (b := (n : Int)) (by omega)
 have h2 := Int.emod_lt_of_pos v (b := (n : Int)) (by omega)
 unfold plc_WireK
 omega
theorem place_any_WireK (v : Int) (n : Nat) (_hv : -9223372036854775808 ≤ v ∧ v ≤ 9223372036854775807) (hn : 0 < n) (hn2 : n ≤ 1000000) (w : World) :
  Calls Tryz.prog 14 #[.int .i64 v, .int .i64 n] w fun e w' => e = .returned (.int .i64 (plc_WireK v n : Nat)) ∧ w' = w := by
 have h0 : ¬ ((n : Int) = 0) := by omega
 go_enter Tryz.func14, Tryz.ntmps14
 have hb := Int.emod_nonneg v (b := (n : Int)) (by omega)
 have hb2 := Int.emod_lt_of_pos v (b := (n : Int)) (by omega)
 have HP : Hid (((plc_WireK v n : Nat) : Int) = v % n) := by simp only [Hid]; unfold plc_WireK; omega
 have HT : Hid (v.tmod n = if 0 ≤ v ∨ (n : Int) ∣ v then v % n else v % n - n) := by
  simp only [Hid]
  rw [Int.tmod_eq_emod]
  split <;> simp
 have ht : -9223372036854775808 ≤ v.tmod n + n ∧ v.tmod n + n ≤ 9223372036854775807 := by rw [HT.out]; split <;> omega
 clear hb hb2
 go_wp2
 all_goals
  go_ret
  refine ⟨ret_int_WordA ?_, rfl⟩
  have hb := Int.emod_nonneg v (b := (n : Int)) (by omega)
  have hb2 := Int.emod_lt_of_pos v (b := (n : Int)) (by omega)
  have h1 := HT.out
  rw [HP.out]
  split at h1 <;> omega
theorem step_append_own_src_WireK {P : Program} {ops : Array Oper} {o : Oper} {a : Act} {w : World} {K : Act → World → Prop} {Q : Exit → Act → World → Prop} {E : Prop}
  (hg : o.guard = none) (s x : Operand) (t tx : TypeId) (hop : o.op = .call { callee := .builtin .append, args := #[s, x], argTypes := #[t, tx] })
  (base : Nat) (e : TypeId) (i : TypeInfo) (z : Value) (size bytes : Nat) (ht : P.underlying t = some (.slice e)) (hi : P.info? e = some i) (hz : i.zero = some z)
  (hsize : i.size = size) (hby : i.bytes = bytes) (hzs : z.cells.size = size)
  (v : Value) (n : Nat) (xs : List Value) (hs : a.eval s = v) (hown : w.ownsRow base e size v n xs)
  (xv : Value) (m : Nat) (news : List Value) (hx : a.eval x = xv) (hsrc : Src P size tx xv m news w)
  (h63 : n + m ≤ maxLen) (hbytes : ∀ old, old < n + m → Builtin.nextslicecap (n + m) old * bytes ≤ 281474976710656) (hbase : base ≤ w.heap.size)
  (h : ∀ v' w', w'.ownsRow base e size v' (n + m) (xs ++ news) → w.grownBy w' v.ownBlock → K (a.put o.dst v') w') :
  if Region.wanted o (yielded ops a.tmps) = true then Oper.wp P o a w K Q else E := by
 have hw : Region.wanted o (yielded ops a.tmps) = true := by simp [Region.wanted, hg]
 rw [if_pos hw]
 obtain ⟨v', w', hr, h2, h3⟩ := run_append_own_src (P := P) w base t tx o.type e i z size bytes ht hi hz hsize hby hzs v n xs hown xv m news hsrc h63 hbytes hbase
 unfold Oper.wp
 simp [execOp, hop, resolve, invoke, builtin, hs, hx, hr, Result.andThen]
 exact h v' w' h2 h3
end
section
theorem rPut_any_RefA (w : World) (v : Nat) (h1 : v < 4294967296) :
  Calls Tryz.prog 107 #[.int .u32 v] w fun e w' => ∃ r, e = .returned r ∧ w'.ownsRow w.heap.size 5 1 r 4 (bc (le4 v)) ∧ Below w.heap.size w w' := by
 have hb : (v : Int) < 4294967296 := by omega
 have H4 : Hid (bc (le4 v) = [.int .u8 ((v : Int) % 256), .int .u8 ((v : Int) / 256 % 256), .int .u8 ((v : Int) / 65536 % 256), .int .u8 ((v : Int) / 16777216)]) := bc_le4 v h1
 go_enter Tryz.func107, Tryz.ntmps107
 go_wp2
 go_ret
 refine ⟨_, rfl, ?_, (Below.refl _ _).alloc (Nat.le_refl _) _⟩
 rw [H4.out]
 exact ⟨rfl, .inr ⟨w.heap.size, 4, _, rfl, Nat.le_refl _, heap_alloc_new w _, Nat.le_refl _, by decide, rfl, rfl⟩⟩
def lenS : Value → Nat
 | .slice _ n _ => n
 | _ => 0
theorem rput_any (w : World) (s : ByteArray) (hs : s.size ≤ 100000) :
  Calls Tryz.prog 164 #[.string s] w fun e w' => ∃ r, e = .returned r ∧ w'.ownsRow w.heap.size 5 1 r (putl s.data.toList).length (bc (putl s.data.toList)) ∧ Below w.heap.size w w' := by
 obtain ⟨i0, hi, hz0, hz1, hz2⟩ := info_parts infoU8_WordA
 have HS : Hid (s.data.toList.length = s.size) := size_toList s
 have Hput : Hid (Calls Tryz.prog 107 #[.int .u32 (s.size : Nat)] w fun e w' => ∃ r, e = .returned r ∧ w'.ownsRow w.heap.size 5 1 r 4 (bc (le4 s.size)) ∧ Below w.heap.size w w') := rPut_any_RefA w s.size (by omega)
 go_enter Tryz.func164, Tryz.ntmps164
 go_wp2_with fail
 refine Hput.out.mono ?_
 rintro e w1 ⟨r1, rfl, ho1, hb1⟩
 have hs1 := hb1.size
 go_wp2_with (at_builtin; refine wpList_append_own_src _ rfl (.tmp 7) (.tmp 8) 148 9 rfl w.heap.size 5 i0 (.int .u8 0) 1 1 Tryz.underlying148 hi hz0 hz1 hz2 rfl r1 4 _ rfl ho1 (.string s) s.size (byteCells s) rfl (Src.ofString _ Tryz.underlying9 s) (by simp only [maxLen]; omega) (fits1 (by omega)) hs1 ?_; intro v2 w2 ho2 hg2)
 have hb2 : Below w.heap.size w w2 := hb1.grown hg2 hs1 (row_lt_WordB ho1)
 rw [byteCells_eq, ← bc_append, ← HS.out] at ho2
 clear hb1 hg2 ho1 hs1
 go_loopw [3] (fun v wr => ∃ m : Nat, 4 + s.size ≤ m ∧ m ≤ 4 + (s.size + 3) / 4 * 4 ∧ wr.ownsRow w.heap.size 5 1 v m (bc ([] ++ le4 s.data.toList.length ++ s.data.toList ++ List.replicate (m - 4 - s.size) 0)) ∧ Below w.heap.size w wr)
  (fun v _ => (s.size + 3) / 4 * 4 + 4 - lenS v)
 case atStart => exact ⟨4 + s.size, by omega, by omega, by rw [HS.out] at ho2; simpa [HS.out] using ho2, hb2⟩
 case round =>
  obtain ⟨m, hk1, hk2, ho, hb⟩ := hrel
  have hsb := hb.size
  have hx := HS.out
  obtain ⟨a1, c1, rfl, _, _⟩ := rd_of_owns ho
  clear hx
  by_cases hlt : m < 4 + (s.size + 3) / 4 * 4
  ·have hm : ((m : Int) % 4 != 0) = true := by rw [bne_iff_ne]; omega
   have HX : Hid (m + 1 ≤ 225000000000000) := by simp only [Hid]; omega
   have HY : Hid (m + 1 ≤ maxLen) := by simp only [Hid, maxLen]; omega
   clear ho2 hb2
   go_wp2_with (at_builtin; refine wpList_append_own_src _ rfl (.tmp 14) (.tmp 15) 148 148 rfl w.heap.size 5 i0 (.int .u8 0) 1 1 Tryz.underlying148 hi hz0 hz1 hz2 rfl _ _ _ rfl (ho.alloc _) (.slice (some ⟨wr.heap.size, 0, none⟩) 1 1) 1 [.int .u8 0] rfl (Src.ofSlice _ Tryz.underlying148 ⟨wr.heap.size, 0, none⟩ 1 1 [.int .u8 0] rfl (cell1 _ _ _) zero_one) HY.out (fits1 HX.out) (by simp; omega) ?_; intro v2 w2 ho2 hg2)
   have hb2 : Below w.heap.size w w2 := (hb.alloc hsb _).grown hg2 (by simp; omega) (row_lt_WordB ho)
   rw [putl_step, show m - 4 - s.size + 1 = m + 1 - 4 - s.size by omega] at ho2
   obtain ⟨a2, c2, rfl, _, _⟩ := rd_of_owns ho2
   clear hg2 ho hb hsb
   go_wp2
   go_roundw
   case rel => exact ⟨m + 1, by omega, by omega, ho2, hb2⟩
   case measure => simp [lenS]; omega
  ·have hm : ((m : Int) % 4 != 0) = false := by rw [bne_eq_false_iff_eq]; omega
   have HK : Hid (m = 4 + (s.size + 3) / 4 * 4) := by simp only [Hid]; omega
   go_wp2
   go_ret
   refine ⟨_, rfl, ?_, hb⟩
   have e1 : putl s.data.toList = [] ++ le4 s.data.toList.length ++ s.data.toList ++ List.replicate (m - 4 - s.size) 0 := by
    rw [putl, HK.out, HS.out, List.nil_append, show 4 + (s.size + 3) / 4 * 4 - 4 - s.size = (s.size + 3) / 4 * 4 - s.size by omega]
   have e2 : (putl s.data.toList).length = m := by rw [putl_length, HS.out, HK.out]
   rw [e2, e1]
   exact ho
theorem rPutList_any (w : World) (s : ByteArray) (hs : s.size ≤ 100000) :
  Calls Tryz.prog 106 #[.string s] w fun e w' => ∃ r, e = .returned r ∧ w'.ownsRow w.heap.size 5 1 r (putl s.data.toList).length (bc (putl s.data.toList)) ∧ Below w.heap.size w w' := by
 go_enter Tryz.func106, Tryz.ntmps106
 go_wp2_with fail
 refine (rput_any w s hs).mono ?_
 rintro e w1 ⟨r1, rfl, ho1, hb1⟩
 go_wp2
 go_ret
 exact ⟨_, rfl, ho1, hb1⟩
theorem rPutText_any (w : World) (s : ByteArray) (hs : s.size ≤ 99999) :
  Calls Tryz.prog 105 #[.string s] w fun e w' => ∃ r, e = .returned r ∧ w'.ownsRow w.heap.size 5 1 r (putl (s.data.toList ++ [0])).length (bc (putl (s.data.toList ++ [0]))) ∧ Below w.heap.size w w' := by
 have H : Hid (Calls Tryz.prog 164 #[.string (s ++ ⟨#[0]⟩)] w fun e w' => ∃ r, e = .returned r ∧ w'.ownsRow w.heap.size 5 1 r (putl (s.data.toList ++ [0])).length (bc (putl (s.data.toList ++ [0]))) ∧ Below w.heap.size w w') := by
  have h := rput_any w (s ++ ⟨#[0]⟩) (by rw [ByteArray.size_append]; show s.size + 1 ≤ 100000; omega)
  have e : (s ++ (⟨#[0]⟩ : ByteArray)).data.toList = s.data.toList ++ [0] := by simp
  rw [e] at h
  exact h
 go_enter Tryz.func105, Tryz.ntmps105
 go_wp2_with fail
 refine H.out.mono ?_
 rintro e w1 ⟨r1, rfl, ho1, hb1⟩
 go_wp2
 go_ret
 exact ⟨_, rfl, ho1, hb1⟩
end
end Go.Proofs.YtpbgbpcdohdecaaGreatDoor
