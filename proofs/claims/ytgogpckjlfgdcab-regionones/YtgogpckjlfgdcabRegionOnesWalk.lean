/- RegionOnes: the call returns true; nothing that was there has turned. -/
import Derived.Test.YtgogpckjlfgdcabRgfH
namespace Go.Proofs.Ytgogpckjlfgdcab.regionOnes
open Go Go.RowKit

theorem o0 : rgn [] = true := rgn_iff.2 reg_nil
theorem o1 : rgn [⟨0, 0, 2, 2⟩] = true := by simp [rgn, dck, inn, emp, chn, prt, tch, eqs, band, behind]
theorem o2 : rgn [⟨0, 0, 1, 2⟩, ⟨2, 0, 1, 2⟩] = true := by simp [rgn, dck, inn, emp, chn, flw, prt, tch, eqs, band, behind]
theorem o3 : rgn [⟨0, 0, 2, 2⟩, ⟨0, 2, 3, 1⟩] = true := by simp [rgn, dck, inn, emp, chn, flw, prt, tch, eqs, band, behind]
theorem b0 : rgn [⟨0, 0, 0, 1⟩] = false := by decide
theorem b1 : rgn [⟨0, 0, 1, 2⟩, ⟨1, 0, 1, 2⟩] = false := by decide
theorem b2 : rgn [⟨0, 0, 2, 2⟩, ⟨0, 2, 2, 1⟩] = false := by simp [rgn, dck, inn, emp, chn, flw, prt, tch, eqs, band, behind]
theorem b3 : rgn [⟨0, 0, 1, 2⟩, ⟨2, 0, 1, 3⟩] = false := by decide
theorem b4 : rgn [⟨0, 2, 1, 1⟩, ⟨0, 0, 2, 1⟩] = false := by decide
theorem b5 : rgn [⟨0, 0, 2, 2⟩, ⟨1, 1, 3, 3⟩] = false := by decide

set_option maxRecDepth 100000 in
theorem r_any (x y u v : Int) (w : World) : Calls Try.prog 12 #[.int .i64 x, .int .i64 y, .int .i64 u, .int .i64 v] w fun e w' => e = .returned (.agg #[.int .i64 x, .int .i64 y, .int .i64 u, .int .i64 v]) ∧ Below w.heap.size w w' := by
  have HB := hid (bx_new w rz)
  have HW := hid (below_new w (.cells #[.int .i64 0, .int .i64 0, .int .i64 0, .int .i64 0] 26))
  go_enter Try.func12, Try.ntmps12
  go_wp2
  refine bodyPost_ret (results_cell_row rfl _ _ w.heap.size _ _ _ _ rfl (heap_alloc_new w _) Try.underlying26 rfl infoR) rfl ?_
  exact ⟨rfl, below_new w _⟩

/-- A literal of two rectangles. -/
theorem rdc_two (w : World) (r s : Rc) (ok : r.Ok) (ok' : s.Ok) : RdC (w.alloc (.cells #[.int .i64 r.x, .int .i64 r.y, .int .i64 r.w, .int .i64 r.h, .int .i64 s.x, .int .i64 s.y, .int .i64 s.w, .int .i64 s.h] 26)) (some ⟨w.heap.size, 0, none⟩) 2 2 [r, s] := by
  refine ⟨rfl, Nat.le_refl _, by decide, (fun h => by cases h), fun _ => ⟨w.heap.size, 0, rfl, by simp, fun j x hx => ?_⟩, fun x hx => ?_⟩
  · match j with
    | 0 =>
      simp only [List.getElem?_cons_zero, Option.some.injEq] at hx
      subst hx
      exact ⟨by simp, by rw [World.cell?, heap_alloc_new]; rfl, by rw [World.cell?, heap_alloc_new]; rfl, by rw [World.cell?, heap_alloc_new]; rfl, by rw [World.cell?, heap_alloc_new]; rfl⟩
    | 1 =>
      simp only [List.getElem?_cons_succ, List.getElem?_cons_zero, Option.some.injEq] at hx
      subst hx
      exact ⟨by simp, by rw [World.cell?, heap_alloc_new]; rfl, by rw [World.cell?, heap_alloc_new]; rfl, by rw [World.cell?, heap_alloc_new]; rfl, by rw [World.cell?, heap_alloc_new]; rfl⟩
    | j + 2 => simp at hx
  · simp only [List.mem_cons, List.not_mem_nil, or_false] at hx
    rcases hx with rfl | rfl
    · exact ok
    · exact ok'

/-- A row of values in a block. -/
structure Ar (u : World) (g : Nat) (vs : List Value) : Prop where
  lt : g < u.heap.size
  c : ∀ i v, vs[i]? = some v → u.cell? ⟨g, i, none⟩ = some v
theorem Ar.on {u u' : World} {g : Nat} {vs : List Value} (h : Ar u g vs) (hb : Below u.heap.size u u') : Ar u' g vs := ⟨Nat.lt_of_lt_of_le h.lt hb.size, fun i v hv => by rw [hb.cell h.lt]; exact h.c i v hv⟩
theorem ar_new (w : World) (vs : Array Value) (t : TypeId) : Ar (w.alloc (.cells vs t)) w.heap.size vs.toList := ⟨by simp, fun i v hv => by
  rw [World.cell?, heap_alloc_new]
  simpa using hv⟩
/-- A row of regions, and whether each is one. -/
structure Rw (u : World) (g n : Nat) (q : Bool) : Prop where
  lt : g < u.heap.size
  c : ∀ i, i < n → ∃ a m c l, u.cell? ⟨g, i, none⟩ = some (.slice a m c) ∧ RdC u a m c l ∧ rgn l = q
theorem Rw.on {u u' : World} {g n : Nat} {q : Bool} (h : Rw u g n q) (hb : Below u.heap.size u u') : Rw u' g n q := ⟨Nat.lt_of_lt_of_le h.lt hb.size, fun i hi => by
  obtain ⟨a, m, c, l, h1, h2, h3⟩ := h.c i hi
  exact ⟨a, m, c, l, by rw [hb.cell h.lt]; exact h1, h2.on hb, h3⟩⟩

set_option maxRecDepth 100000 in
set_option maxHeartbeats 2000000 in
theorem walk (w : World) : Calls Try.prog 4 #[] w fun e w' => e = .returned (.bool true) ∧ Below w.heap.size w w' := by
  have HBel := hid (Below.refl w.heap.size w)
  go_enter Try.func4, Try.ntmps4
  -- GOOD
  go_wp2_with fail
  refine (r_any 0 0 2 2 _).mono ?_
  rintro e w1 ⟨rfl, hb1⟩
  replace HBel := hid (Below.on HBel.out hb1)
  clear hb1
  replace HBel := hid (Below.on HBel.out (below_new w1 (.cells #[.int .i64 0, .int .i64 0, .int .i64 2, .int .i64 2] 26)))
  have HP1 := hid (rdc_lit w1 ⟨0, 0, 2, 2⟩ ⟨by decide, by decide, by decide, by decide⟩)
  go_wp2_with fail
  refine (r_any 0 0 1 2 _).mono ?_
  rintro e w2 ⟨rfl, hb2⟩
  replace HP1 := hid (HP1.out.on hb2)
  replace HBel := hid (Below.on HBel.out hb2)
  clear hb2
  go_wp2_with fail
  refine (r_any 2 0 1 2 _).mono ?_
  rintro e w3 ⟨rfl, hb3⟩
  replace HP1 := hid (HP1.out.on hb3)
  replace HBel := hid (Below.on HBel.out hb3)
  clear hb3
  replace HP1 := hid (HP1.out.on (below_new w3 (.cells #[.int .i64 0, .int .i64 0, .int .i64 1, .int .i64 2, .int .i64 2, .int .i64 0, .int .i64 1, .int .i64 2] 26)))
  replace HBel := hid (Below.on HBel.out (below_new w3 (.cells #[.int .i64 0, .int .i64 0, .int .i64 1, .int .i64 2, .int .i64 2, .int .i64 0, .int .i64 1, .int .i64 2] 26)))
  have HP2 := hid (rdc_two w3 ⟨0, 0, 1, 2⟩ ⟨2, 0, 1, 2⟩ ⟨by decide, by decide, by decide, by decide⟩ ⟨by decide, by decide, by decide, by decide⟩)
  go_wp2_with fail
  refine (r_any 0 0 2 2 _).mono ?_
  rintro e w4 ⟨rfl, hb4⟩
  replace HP1 := hid (HP1.out.on hb4)
  replace HP2 := hid (HP2.out.on hb4)
  replace HBel := hid (Below.on HBel.out hb4)
  clear hb4
  go_wp2_with fail
  refine (r_any 0 2 3 1 _).mono ?_
  rintro e w5 ⟨rfl, hb5⟩
  replace HP1 := hid (HP1.out.on hb5)
  replace HP2 := hid (HP2.out.on hb5)
  replace HBel := hid (Below.on HBel.out hb5)
  clear hb5
  replace HP1 := hid (HP1.out.on (below_new w5 (.cells #[.int .i64 0, .int .i64 0, .int .i64 2, .int .i64 2, .int .i64 0, .int .i64 2, .int .i64 3, .int .i64 1] 26)))
  replace HP2 := hid (HP2.out.on (below_new w5 (.cells #[.int .i64 0, .int .i64 0, .int .i64 2, .int .i64 2, .int .i64 0, .int .i64 2, .int .i64 3, .int .i64 1] 26)))
  replace HBel := hid (Below.on HBel.out (below_new w5 (.cells #[.int .i64 0, .int .i64 0, .int .i64 2, .int .i64 2, .int .i64 0, .int .i64 2, .int .i64 3, .int .i64 1] 26)))
  have HP3 := hid (rdc_two w5 ⟨0, 0, 2, 2⟩ ⟨0, 2, 3, 1⟩ ⟨by decide, by decide, by decide, by decide⟩ ⟨by decide, by decide, by decide, by decide⟩)
  replace HP1 := hid (HP1.out.on (below_new (w5.alloc (.cells #[.int .i64 0, .int .i64 0, .int .i64 2, .int .i64 2, .int .i64 0, .int .i64 2, .int .i64 3, .int .i64 1] 26)) (.cells #[.slice none 0 0, .slice (some ⟨w1.heap.size, 0, none⟩) 1 1, .slice (some ⟨w3.heap.size, 0, none⟩) 2 2, .slice (some ⟨w5.heap.size, 0, none⟩) 2 2] 34)))
  replace HP2 := hid (HP2.out.on (below_new (w5.alloc (.cells #[.int .i64 0, .int .i64 0, .int .i64 2, .int .i64 2, .int .i64 0, .int .i64 2, .int .i64 3, .int .i64 1] 26)) (.cells #[.slice none 0 0, .slice (some ⟨w1.heap.size, 0, none⟩) 1 1, .slice (some ⟨w3.heap.size, 0, none⟩) 2 2, .slice (some ⟨w5.heap.size, 0, none⟩) 2 2] 34)))
  replace HP3 := hid (HP3.out.on (below_new (w5.alloc (.cells #[.int .i64 0, .int .i64 0, .int .i64 2, .int .i64 2, .int .i64 0, .int .i64 2, .int .i64 3, .int .i64 1] 26)) (.cells #[.slice none 0 0, .slice (some ⟨w1.heap.size, 0, none⟩) 1 1, .slice (some ⟨w3.heap.size, 0, none⟩) 2 2, .slice (some ⟨w5.heap.size, 0, none⟩) 2 2] 34)))
  replace HBel := hid (Below.on HBel.out (below_new (w5.alloc (.cells #[.int .i64 0, .int .i64 0, .int .i64 2, .int .i64 2, .int .i64 0, .int .i64 2, .int .i64 3, .int .i64 1] 26)) (.cells #[.slice none 0 0, .slice (some ⟨w1.heap.size, 0, none⟩) 1 1, .slice (some ⟨w3.heap.size, 0, none⟩) 2 2, .slice (some ⟨w5.heap.size, 0, none⟩) 2 2] 34)))
  have HRG := hid (ar_new (w5.alloc (.cells #[.int .i64 0, .int .i64 0, .int .i64 2, .int .i64 2, .int .i64 0, .int .i64 2, .int .i64 3, .int .i64 1] 26)) #[.slice none 0 0, .slice (some ⟨w1.heap.size, 0, none⟩) 1 1, .slice (some ⟨w3.heap.size, 0, none⟩) 2 2, .slice (some ⟨w5.heap.size, 0, none⟩) 2 2] 34)
  have HG : Hid (Rw ((w5.alloc (.cells #[.int .i64 0, .int .i64 0, .int .i64 2, .int .i64 2, .int .i64 0, .int .i64 2, .int .i64 3, .int .i64 1] 26)).alloc (.cells #[.slice none 0 0, .slice (some ⟨w1.heap.size, 0, none⟩) 1 1, .slice (some ⟨w3.heap.size, 0, none⟩) 2 2, .slice (some ⟨w5.heap.size, 0, none⟩) 2 2] 34)) (w5.alloc (.cells #[.int .i64 0, .int .i64 0, .int .i64 2, .int .i64 2, .int .i64 0, .int .i64 2, .int .i64 3, .int .i64 1] 26)).heap.size 4 true) := ⟨HRG.out.lt, fun i hi => by
    match i with
    | 0 => exact ⟨_, _, _, _, HRG.out.c 0 _ rfl, RdC.nil _, o0⟩
    | 1 => exact ⟨_, _, _, _, HRG.out.c 1 _ rfl, HP1.out, o1⟩
    | 2 => exact ⟨_, _, _, _, HRG.out.c 2 _ rfl, HP2.out, o2⟩
    | 3 => exact ⟨_, _, _, _, HRG.out.c 3 _ rfl, HP3.out, o3⟩
    | k + 4 => exact absurd hi (by omega)⟩
  clear HRG HP1 HP2 HP3
  rw [World.size_alloc] at HG
  go_wp2_with fail
  refine (r_any 0 0 0 1 _).mono ?_
  rintro e w6 ⟨rfl, hb6⟩
  replace HG := hid (HG.out.on hb6)
  replace HBel := hid (Below.on HBel.out hb6)
  clear hb6
  replace HG := hid (HG.out.on (below_new w6 (.cells #[.int .i64 0, .int .i64 0, .int .i64 0, .int .i64 1] 26)))
  replace HBel := hid (Below.on HBel.out (below_new w6 (.cells #[.int .i64 0, .int .i64 0, .int .i64 0, .int .i64 1] 26)))
  have HQ0 := hid (rdc_lit w6 ⟨0, 0, 0, 1⟩ ⟨by decide, by decide, by decide, by decide⟩)
  go_wp2_with fail
  refine (r_any 0 0 1 2 _).mono ?_
  rintro e w7 ⟨rfl, hb7⟩
  replace HG := hid (HG.out.on hb7)
  replace HQ0 := hid (HQ0.out.on hb7)
  replace HBel := hid (Below.on HBel.out hb7)
  clear hb7
  go_wp2_with fail
  refine (r_any 1 0 1 2 _).mono ?_
  rintro e w8 ⟨rfl, hb8⟩
  replace HG := hid (HG.out.on hb8)
  replace HQ0 := hid (HQ0.out.on hb8)
  replace HBel := hid (Below.on HBel.out hb8)
  clear hb8
  replace HG := hid (HG.out.on (below_new w8 (.cells #[.int .i64 0, .int .i64 0, .int .i64 1, .int .i64 2, .int .i64 1, .int .i64 0, .int .i64 1, .int .i64 2] 26)))
  replace HQ0 := hid (HQ0.out.on (below_new w8 (.cells #[.int .i64 0, .int .i64 0, .int .i64 1, .int .i64 2, .int .i64 1, .int .i64 0, .int .i64 1, .int .i64 2] 26)))
  replace HBel := hid (Below.on HBel.out (below_new w8 (.cells #[.int .i64 0, .int .i64 0, .int .i64 1, .int .i64 2, .int .i64 1, .int .i64 0, .int .i64 1, .int .i64 2] 26)))
  have HQ1 := hid (rdc_two w8 ⟨0, 0, 1, 2⟩ ⟨1, 0, 1, 2⟩ ⟨by decide, by decide, by decide, by decide⟩ ⟨by decide, by decide, by decide, by decide⟩)
  go_wp2_with fail
  refine (r_any 0 0 2 2 _).mono ?_
  rintro e w9 ⟨rfl, hb9⟩
  replace HG := hid (HG.out.on hb9)
  replace HQ0 := hid (HQ0.out.on hb9)
  replace HQ1 := hid (HQ1.out.on hb9)
  replace HBel := hid (Below.on HBel.out hb9)
  clear hb9
  go_wp2_with fail
  refine (r_any 0 2 2 1 _).mono ?_
  rintro e w10 ⟨rfl, hb10⟩
  replace HG := hid (HG.out.on hb10)
  replace HQ0 := hid (HQ0.out.on hb10)
  replace HQ1 := hid (HQ1.out.on hb10)
  replace HBel := hid (Below.on HBel.out hb10)
  clear hb10
  replace HG := hid (HG.out.on (below_new w10 (.cells #[.int .i64 0, .int .i64 0, .int .i64 2, .int .i64 2, .int .i64 0, .int .i64 2, .int .i64 2, .int .i64 1] 26)))
  replace HQ0 := hid (HQ0.out.on (below_new w10 (.cells #[.int .i64 0, .int .i64 0, .int .i64 2, .int .i64 2, .int .i64 0, .int .i64 2, .int .i64 2, .int .i64 1] 26)))
  replace HQ1 := hid (HQ1.out.on (below_new w10 (.cells #[.int .i64 0, .int .i64 0, .int .i64 2, .int .i64 2, .int .i64 0, .int .i64 2, .int .i64 2, .int .i64 1] 26)))
  replace HBel := hid (Below.on HBel.out (below_new w10 (.cells #[.int .i64 0, .int .i64 0, .int .i64 2, .int .i64 2, .int .i64 0, .int .i64 2, .int .i64 2, .int .i64 1] 26)))
  have HQ2 := hid (rdc_two w10 ⟨0, 0, 2, 2⟩ ⟨0, 2, 2, 1⟩ ⟨by decide, by decide, by decide, by decide⟩ ⟨by decide, by decide, by decide, by decide⟩)
  go_wp2_with fail
  refine (r_any 0 0 1 2 _).mono ?_
  rintro e w11 ⟨rfl, hb11⟩
  replace HG := hid (HG.out.on hb11)
  replace HQ0 := hid (HQ0.out.on hb11)
  replace HQ1 := hid (HQ1.out.on hb11)
  replace HQ2 := hid (HQ2.out.on hb11)
  replace HBel := hid (Below.on HBel.out hb11)
  clear hb11
  go_wp2_with fail
  refine (r_any 2 0 1 3 _).mono ?_
  rintro e w12 ⟨rfl, hb12⟩
  replace HG := hid (HG.out.on hb12)
  replace HQ0 := hid (HQ0.out.on hb12)
  replace HQ1 := hid (HQ1.out.on hb12)
  replace HQ2 := hid (HQ2.out.on hb12)
  replace HBel := hid (Below.on HBel.out hb12)
  clear hb12
  replace HG := hid (HG.out.on (below_new w12 (.cells #[.int .i64 0, .int .i64 0, .int .i64 1, .int .i64 2, .int .i64 2, .int .i64 0, .int .i64 1, .int .i64 3] 26)))
  replace HQ0 := hid (HQ0.out.on (below_new w12 (.cells #[.int .i64 0, .int .i64 0, .int .i64 1, .int .i64 2, .int .i64 2, .int .i64 0, .int .i64 1, .int .i64 3] 26)))
  replace HQ1 := hid (HQ1.out.on (below_new w12 (.cells #[.int .i64 0, .int .i64 0, .int .i64 1, .int .i64 2, .int .i64 2, .int .i64 0, .int .i64 1, .int .i64 3] 26)))
  replace HQ2 := hid (HQ2.out.on (below_new w12 (.cells #[.int .i64 0, .int .i64 0, .int .i64 1, .int .i64 2, .int .i64 2, .int .i64 0, .int .i64 1, .int .i64 3] 26)))
  replace HBel := hid (Below.on HBel.out (below_new w12 (.cells #[.int .i64 0, .int .i64 0, .int .i64 1, .int .i64 2, .int .i64 2, .int .i64 0, .int .i64 1, .int .i64 3] 26)))
  have HQ3 := hid (rdc_two w12 ⟨0, 0, 1, 2⟩ ⟨2, 0, 1, 3⟩ ⟨by decide, by decide, by decide, by decide⟩ ⟨by decide, by decide, by decide, by decide⟩)
  go_wp2_with fail
  refine (r_any 0 2 1 1 _).mono ?_
  rintro e w13 ⟨rfl, hb13⟩
  replace HG := hid (HG.out.on hb13)
  replace HQ0 := hid (HQ0.out.on hb13)
  replace HQ1 := hid (HQ1.out.on hb13)
  replace HQ2 := hid (HQ2.out.on hb13)
  replace HQ3 := hid (HQ3.out.on hb13)
  replace HBel := hid (Below.on HBel.out hb13)
  clear hb13
  go_wp2_with fail
  refine (r_any 0 0 2 1 _).mono ?_
  rintro e w14 ⟨rfl, hb14⟩
  replace HG := hid (HG.out.on hb14)
  replace HQ0 := hid (HQ0.out.on hb14)
  replace HQ1 := hid (HQ1.out.on hb14)
  replace HQ2 := hid (HQ2.out.on hb14)
  replace HQ3 := hid (HQ3.out.on hb14)
  replace HBel := hid (Below.on HBel.out hb14)
  clear hb14
  replace HG := hid (HG.out.on (below_new w14 (.cells #[.int .i64 0, .int .i64 2, .int .i64 1, .int .i64 1, .int .i64 0, .int .i64 0, .int .i64 2, .int .i64 1] 26)))
  replace HQ0 := hid (HQ0.out.on (below_new w14 (.cells #[.int .i64 0, .int .i64 2, .int .i64 1, .int .i64 1, .int .i64 0, .int .i64 0, .int .i64 2, .int .i64 1] 26)))
  replace HQ1 := hid (HQ1.out.on (below_new w14 (.cells #[.int .i64 0, .int .i64 2, .int .i64 1, .int .i64 1, .int .i64 0, .int .i64 0, .int .i64 2, .int .i64 1] 26)))
  replace HQ2 := hid (HQ2.out.on (below_new w14 (.cells #[.int .i64 0, .int .i64 2, .int .i64 1, .int .i64 1, .int .i64 0, .int .i64 0, .int .i64 2, .int .i64 1] 26)))
  replace HQ3 := hid (HQ3.out.on (below_new w14 (.cells #[.int .i64 0, .int .i64 2, .int .i64 1, .int .i64 1, .int .i64 0, .int .i64 0, .int .i64 2, .int .i64 1] 26)))
  replace HBel := hid (Below.on HBel.out (below_new w14 (.cells #[.int .i64 0, .int .i64 2, .int .i64 1, .int .i64 1, .int .i64 0, .int .i64 0, .int .i64 2, .int .i64 1] 26)))
  have HQ4 := hid (rdc_two w14 ⟨0, 2, 1, 1⟩ ⟨0, 0, 2, 1⟩ ⟨by decide, by decide, by decide, by decide⟩ ⟨by decide, by decide, by decide, by decide⟩)
  go_wp2_with fail
  refine (r_any 0 0 2 2 _).mono ?_
  rintro e w15 ⟨rfl, hb15⟩
  replace HG := hid (HG.out.on hb15)
  replace HQ0 := hid (HQ0.out.on hb15)
  replace HQ1 := hid (HQ1.out.on hb15)
  replace HQ2 := hid (HQ2.out.on hb15)
  replace HQ3 := hid (HQ3.out.on hb15)
  replace HQ4 := hid (HQ4.out.on hb15)
  replace HBel := hid (Below.on HBel.out hb15)
  clear hb15
  go_wp2_with fail
  refine (r_any 1 1 3 3 _).mono ?_
  rintro e w16 ⟨rfl, hb16⟩
  replace HG := hid (HG.out.on hb16)
  replace HQ0 := hid (HQ0.out.on hb16)
  replace HQ1 := hid (HQ1.out.on hb16)
  replace HQ2 := hid (HQ2.out.on hb16)
  replace HQ3 := hid (HQ3.out.on hb16)
  replace HQ4 := hid (HQ4.out.on hb16)
  replace HBel := hid (Below.on HBel.out hb16)
  clear hb16
  replace HG := hid (HG.out.on (below_new w16 (.cells #[.int .i64 0, .int .i64 0, .int .i64 2, .int .i64 2, .int .i64 1, .int .i64 1, .int .i64 3, .int .i64 3] 26)))
  replace HQ0 := hid (HQ0.out.on (below_new w16 (.cells #[.int .i64 0, .int .i64 0, .int .i64 2, .int .i64 2, .int .i64 1, .int .i64 1, .int .i64 3, .int .i64 3] 26)))
  replace HQ1 := hid (HQ1.out.on (below_new w16 (.cells #[.int .i64 0, .int .i64 0, .int .i64 2, .int .i64 2, .int .i64 1, .int .i64 1, .int .i64 3, .int .i64 3] 26)))
  replace HQ2 := hid (HQ2.out.on (below_new w16 (.cells #[.int .i64 0, .int .i64 0, .int .i64 2, .int .i64 2, .int .i64 1, .int .i64 1, .int .i64 3, .int .i64 3] 26)))
  replace HQ3 := hid (HQ3.out.on (below_new w16 (.cells #[.int .i64 0, .int .i64 0, .int .i64 2, .int .i64 2, .int .i64 1, .int .i64 1, .int .i64 3, .int .i64 3] 26)))
  replace HQ4 := hid (HQ4.out.on (below_new w16 (.cells #[.int .i64 0, .int .i64 0, .int .i64 2, .int .i64 2, .int .i64 1, .int .i64 1, .int .i64 3, .int .i64 3] 26)))
  replace HBel := hid (Below.on HBel.out (below_new w16 (.cells #[.int .i64 0, .int .i64 0, .int .i64 2, .int .i64 2, .int .i64 1, .int .i64 1, .int .i64 3, .int .i64 3] 26)))
  have HQ5 := hid (rdc_two w16 ⟨0, 0, 2, 2⟩ ⟨1, 1, 3, 3⟩ ⟨by decide, by decide, by decide, by decide⟩ ⟨by decide, by decide, by decide, by decide⟩)
  replace HG := hid (HG.out.on (below_new (w16.alloc (.cells #[.int .i64 0, .int .i64 0, .int .i64 2, .int .i64 2, .int .i64 1, .int .i64 1, .int .i64 3, .int .i64 3] 26)) (.cells #[.slice (some ⟨w6.heap.size, 0, none⟩) 1 1, .slice (some ⟨w8.heap.size, 0, none⟩) 2 2, .slice (some ⟨w10.heap.size, 0, none⟩) 2 2, .slice (some ⟨w12.heap.size, 0, none⟩) 2 2, .slice (some ⟨w14.heap.size, 0, none⟩) 2 2, .slice (some ⟨w16.heap.size, 0, none⟩) 2 2] 35)))
  replace HQ0 := hid (HQ0.out.on (below_new (w16.alloc (.cells #[.int .i64 0, .int .i64 0, .int .i64 2, .int .i64 2, .int .i64 1, .int .i64 1, .int .i64 3, .int .i64 3] 26)) (.cells #[.slice (some ⟨w6.heap.size, 0, none⟩) 1 1, .slice (some ⟨w8.heap.size, 0, none⟩) 2 2, .slice (some ⟨w10.heap.size, 0, none⟩) 2 2, .slice (some ⟨w12.heap.size, 0, none⟩) 2 2, .slice (some ⟨w14.heap.size, 0, none⟩) 2 2, .slice (some ⟨w16.heap.size, 0, none⟩) 2 2] 35)))
  replace HQ1 := hid (HQ1.out.on (below_new (w16.alloc (.cells #[.int .i64 0, .int .i64 0, .int .i64 2, .int .i64 2, .int .i64 1, .int .i64 1, .int .i64 3, .int .i64 3] 26)) (.cells #[.slice (some ⟨w6.heap.size, 0, none⟩) 1 1, .slice (some ⟨w8.heap.size, 0, none⟩) 2 2, .slice (some ⟨w10.heap.size, 0, none⟩) 2 2, .slice (some ⟨w12.heap.size, 0, none⟩) 2 2, .slice (some ⟨w14.heap.size, 0, none⟩) 2 2, .slice (some ⟨w16.heap.size, 0, none⟩) 2 2] 35)))
  replace HQ2 := hid (HQ2.out.on (below_new (w16.alloc (.cells #[.int .i64 0, .int .i64 0, .int .i64 2, .int .i64 2, .int .i64 1, .int .i64 1, .int .i64 3, .int .i64 3] 26)) (.cells #[.slice (some ⟨w6.heap.size, 0, none⟩) 1 1, .slice (some ⟨w8.heap.size, 0, none⟩) 2 2, .slice (some ⟨w10.heap.size, 0, none⟩) 2 2, .slice (some ⟨w12.heap.size, 0, none⟩) 2 2, .slice (some ⟨w14.heap.size, 0, none⟩) 2 2, .slice (some ⟨w16.heap.size, 0, none⟩) 2 2] 35)))
  replace HQ3 := hid (HQ3.out.on (below_new (w16.alloc (.cells #[.int .i64 0, .int .i64 0, .int .i64 2, .int .i64 2, .int .i64 1, .int .i64 1, .int .i64 3, .int .i64 3] 26)) (.cells #[.slice (some ⟨w6.heap.size, 0, none⟩) 1 1, .slice (some ⟨w8.heap.size, 0, none⟩) 2 2, .slice (some ⟨w10.heap.size, 0, none⟩) 2 2, .slice (some ⟨w12.heap.size, 0, none⟩) 2 2, .slice (some ⟨w14.heap.size, 0, none⟩) 2 2, .slice (some ⟨w16.heap.size, 0, none⟩) 2 2] 35)))
  replace HQ4 := hid (HQ4.out.on (below_new (w16.alloc (.cells #[.int .i64 0, .int .i64 0, .int .i64 2, .int .i64 2, .int .i64 1, .int .i64 1, .int .i64 3, .int .i64 3] 26)) (.cells #[.slice (some ⟨w6.heap.size, 0, none⟩) 1 1, .slice (some ⟨w8.heap.size, 0, none⟩) 2 2, .slice (some ⟨w10.heap.size, 0, none⟩) 2 2, .slice (some ⟨w12.heap.size, 0, none⟩) 2 2, .slice (some ⟨w14.heap.size, 0, none⟩) 2 2, .slice (some ⟨w16.heap.size, 0, none⟩) 2 2] 35)))
  replace HQ5 := hid (HQ5.out.on (below_new (w16.alloc (.cells #[.int .i64 0, .int .i64 0, .int .i64 2, .int .i64 2, .int .i64 1, .int .i64 1, .int .i64 3, .int .i64 3] 26)) (.cells #[.slice (some ⟨w6.heap.size, 0, none⟩) 1 1, .slice (some ⟨w8.heap.size, 0, none⟩) 2 2, .slice (some ⟨w10.heap.size, 0, none⟩) 2 2, .slice (some ⟨w12.heap.size, 0, none⟩) 2 2, .slice (some ⟨w14.heap.size, 0, none⟩) 2 2, .slice (some ⟨w16.heap.size, 0, none⟩) 2 2] 35)))
  replace HBel := hid (Below.on HBel.out (below_new (w16.alloc (.cells #[.int .i64 0, .int .i64 0, .int .i64 2, .int .i64 2, .int .i64 1, .int .i64 1, .int .i64 3, .int .i64 3] 26)) (.cells #[.slice (some ⟨w6.heap.size, 0, none⟩) 1 1, .slice (some ⟨w8.heap.size, 0, none⟩) 2 2, .slice (some ⟨w10.heap.size, 0, none⟩) 2 2, .slice (some ⟨w12.heap.size, 0, none⟩) 2 2, .slice (some ⟨w14.heap.size, 0, none⟩) 2 2, .slice (some ⟨w16.heap.size, 0, none⟩) 2 2] 35)))
  have HRD := hid (ar_new (w16.alloc (.cells #[.int .i64 0, .int .i64 0, .int .i64 2, .int .i64 2, .int .i64 1, .int .i64 1, .int .i64 3, .int .i64 3] 26)) #[.slice (some ⟨w6.heap.size, 0, none⟩) 1 1, .slice (some ⟨w8.heap.size, 0, none⟩) 2 2, .slice (some ⟨w10.heap.size, 0, none⟩) 2 2, .slice (some ⟨w12.heap.size, 0, none⟩) 2 2, .slice (some ⟨w14.heap.size, 0, none⟩) 2 2, .slice (some ⟨w16.heap.size, 0, none⟩) 2 2] 35)
  have HD : Hid (Rw ((w16.alloc (.cells #[.int .i64 0, .int .i64 0, .int .i64 2, .int .i64 2, .int .i64 1, .int .i64 1, .int .i64 3, .int .i64 3] 26)).alloc (.cells #[.slice (some ⟨w6.heap.size, 0, none⟩) 1 1, .slice (some ⟨w8.heap.size, 0, none⟩) 2 2, .slice (some ⟨w10.heap.size, 0, none⟩) 2 2, .slice (some ⟨w12.heap.size, 0, none⟩) 2 2, .slice (some ⟨w14.heap.size, 0, none⟩) 2 2, .slice (some ⟨w16.heap.size, 0, none⟩) 2 2] 35)) (w16.alloc (.cells #[.int .i64 0, .int .i64 0, .int .i64 2, .int .i64 2, .int .i64 1, .int .i64 1, .int .i64 3, .int .i64 3] 26)).heap.size 6 false) := ⟨HRD.out.lt, fun i hi => by
    match i with
    | 0 => exact ⟨_, _, _, _, HRD.out.c 0 _ rfl, HQ0.out, b0⟩
    | 1 => exact ⟨_, _, _, _, HRD.out.c 1 _ rfl, HQ1.out, b1⟩
    | 2 => exact ⟨_, _, _, _, HRD.out.c 2 _ rfl, HQ2.out, b2⟩
    | 3 => exact ⟨_, _, _, _, HRD.out.c 3 _ rfl, HQ3.out, b3⟩
    | 4 => exact ⟨_, _, _, _, HRD.out.c 4 _ rfl, HQ4.out, b4⟩
    | 5 => exact ⟨_, _, _, _, HRD.out.c 5 _ rfl, HQ5.out, b5⟩
    | k + 6 => exact absurd hi (by omega)⟩
  clear HRD HQ0 HQ1 HQ2 HQ3 HQ4 HQ5
  rw [World.size_alloc] at HD
  -- HERE
  go_upto_region 4 with fail
  generalize hgg : w5.heap.size + 1 = ga at HG ⊢
  clear hgg
  generalize hgd : w16.heap.size + 1 = gb at HD ⊢
  clear hgd
  generalize hu : ((w16.alloc (.cells #[.int .i64 0, .int .i64 0, .int .i64 2, .int .i64 2, .int .i64 1, .int .i64 1, .int .i64 3, .int .i64 3] 26)).alloc (.cells #[.slice (some ⟨w6.heap.size, 0, none⟩) 1 1, .slice (some ⟨w8.heap.size, 0, none⟩) 2 2, .slice (some ⟨w10.heap.size, 0, none⟩) 2 2, .slice (some ⟨w12.heap.size, 0, none⟩) 2 2, .slice (some ⟨w14.heap.size, 0, none⟩) 2 2, .slice (some ⟨w16.heap.size, 0, none⟩) 2 2] 35)) = wz0 at HG HD HBel ⊢
  clear hu
  go_wp2
  go_loopw [4] (fun s4 wr => ∃ i : Nat, s4 = .int .i64 i ∧ i ≤ 4 ∧ Below wz0.heap.size wz0 wr) (fun s4 _ => 4 - (numOf s4).toNat)
  case atStart => exact ⟨0, rfl, by omega, Below.refl _ _⟩
  case round =>
    obtain ⟨i, rfl, hi4, hb⟩ := hrel
    have HB := hid hb
    clear hb
    by_cases hgo : i < 4
    · have e1 : decide ((i : Int) < 4) = true := decide_eq_true (by omega)
      have e2 : (i : Int) < 4 := by omega
      obtain ⟨a, m, c, l, d0, hr, hq⟩ := (HG.out.on HB.out).c i hgo
      have CK := hid (regcheck_any a m c l wr hr)
      rw [hq] at CK
      clear hr hq
      go_wp2_with fail
      refine CK.out.mono ?_
      rintro e w1 ⟨rfl, hb1⟩
      have HB1 := hid (Below.on HB.out hb1)
      clear hb1
      go_wp2
      go_roundw
      case rel => exact ⟨i + 1, by go_num, by omega, HB1.out⟩
      case measure => simp [numOf]; omega
    · have e1 : decide ((i : Int) < 4) = false := decide_eq_false (by omega)
      go_wp2
      go_loopw [5] (fun s5 wz => ∃ i : Nat, s5 = .int .i64 i ∧ i ≤ 6 ∧ Below wz0.heap.size wz0 wz) (fun s5 _ => 6 - (numOf s5).toNat)
      case atStart => exact ⟨0, rfl, by omega, HB.out⟩
      case round =>
        obtain ⟨j, rfl, hj6, hb⟩ := hrel
        have HB2 := hid hb
        clear hb
        by_cases hgo2 : j < 6
        · have e3 : decide ((j : Int) < 6) = true := decide_eq_true (by omega)
          have e4 : (j : Int) < 6 := by omega
          obtain ⟨a, m, c, l, d0, hr, hq⟩ := (HD.out.on HB2.out).c j hgo2
          have CK := hid (regcheck_any a m c l _ hr)
          rw [hq] at CK
          clear hr hq
          go_wp2_with fail
          refine CK.out.mono ?_
          rintro e w1 ⟨rfl, hb1⟩
          have HB1 := hid (Below.on HB2.out hb1)
          clear hb1
          go_wp2
          go_roundw
          case rel => exact ⟨j + 1, by go_num, by omega, HB1.out⟩
          case measure => simp [numOf]; omega
        · have e3 : decide ((j : Int) < 6) = false := decide_eq_false (by omega)
          go_wp2_with fail
          refine (awake_any _).mono ?_
          rintro e w1 ⟨rfl, hb1⟩
          have HB1 := hid (Below.on HBel.out (Below.on HB2.out hb1))
          clear hb1
          go_wp2
          go_ret
          exact ⟨rfl, HB1.out⟩
end Go.Proofs.Ytgogpckjlfgdcab.regionOnes
