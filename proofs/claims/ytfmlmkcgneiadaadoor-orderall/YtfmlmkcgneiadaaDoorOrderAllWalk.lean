/- OrderAll: for every slice of numbers and every two numbers the call returns true; nothing that was there has turned. -/
import Derived.Test.YtfmlmkcgneiadaaDoorOrdI
namespace Go.Proofs.YtfmlmkcgneiadaaDoor.orderAll
open Go Go.RowKit

set_option maxRecDepth 100000 in
set_option maxHeartbeats 4000000 in
theorem core (a : Option Addr) (n c : Nat) (l : List Int) (id by_ : Int) (w : World) (h : Rz w a n c l) (es : List Addr) (hE : Errs w gerrs es) :
    Calls Tryd.prog 3 #[.slice a n c, .int .i64 id, .int .i64 by_] w fun e w' => e = .returned (.bool true) ∧ Below w.heap.size w w' := by
  have hs := h.small
  by_cases hbig : 60 < n
  · have e1 : decide ((60 : Int) < n) = true := decide_eq_true (by omega)
    have HA := hid (awake_any w es hE)
    clear h hE
    go_enter Tryd.func3, Tryd.ntmps3
    go_wp2_with fail
    refine HA.out.mono ?_
    rintro e w1 ⟨rfl, hb1⟩
    have HB1 := hid hb1
    clear hb1 HA
    go_wp2
    go_ret
    exact ⟨rfl, HB1.out⟩
  have e1 : decide ((60 : Int) < n) = false := decide_eq_false (by omega)
  obtain ⟨p, hp, hP⟩ := pl_of hE
  have HP : Hid (∀ u, Below w.heap.size w u → Pl u p) := fun u hu => hP.on hu
  have HE : Hid (∀ u, Below w.heap.size w u → Errs u gerrs es) := fun u hu => hE.below hu
  have HPE := hid hp
  have hlen := h.len
  subst hlen
  have hn1 : l.length ≤ 1000000 := by omega
  have S0 := hid (Sty.one h)
  clear hp hP hE h
  go_enter Tryd.func3, Tryd.ntmps3
  go_wp2_with fail
  refine (intsz_any _ _ _ l w (S0.out.rd (a, l.length, c, l) (by simp)) hn1).mono ?_
  rintro e w1 h1
  obtain ⟨ax, cx, rfl, hr1, hb1⟩ := owz_rd h1
  have S1 := hid (S0.out.add hb1 hr1)
  clear h1 hr1 hb1 S0
  go_wp2_with fail
  refine (above_any _ _ _ l id by_ _ p (HP.out _ S1.out.bel) (S1.out.rd (ax, l.length, cx, l) (by simp)) hn1).mono ?_
  rintro e w2 h1
  obtain ⟨a2, n2, c2, rfl, hr1, hb1⟩ := besr h1
  have S2 := hid (S1.out.add hb1 hr1)
  clear h1 hr1 hb1 S1
  go_wp2_with fail
  refine (rput_any _ _ _ l id by_ 1 (by omega) _ (S2.out.rd (a, l.length, c, l) (by simp)) hn1).mono ?_
  rintro e w3 h1
  obtain ⟨a3, n3, c3, rfl, hr1, hb1⟩ := putr h1
  have S3 := hid (S2.out.add hb1 hr1)
  clear h1 hr1 hb1 S2
  generalize bes l id by_ 1 = r1 at *
  go_wp2_with fail
  refine (below_any _ _ _ l id by_ _ p (HP.out _ S3.out.bel) (S3.out.rd (ax, l.length, cx, l) (by simp)) hn1).mono ?_
  rintro e w4 h1
  obtain ⟨a4, n4, c4, rfl, hr1, hb1⟩ := besr h1
  have S4 := hid (S3.out.add hb1 hr1)
  clear h1 hr1 hb1 S3
  go_wp2_with fail
  refine (rput_any _ _ _ l id by_ 0 (by omega) _ (S4.out.rd (a, l.length, c, l) (by simp)) hn1).mono ?_
  rintro e w5 h1
  obtain ⟨a5, n5, c5, rfl, hr1, hb1⟩ := putr h1
  have S5 := hid (S4.out.add hb1 hr1)
  clear h1 hr1 hb1 S4
  generalize bes l id by_ 0 = r0 at *
  go_wp2_with fail
  refine (has_any _ _ _ l id _ p (HP.out _ S5.out.bel) (S5.out.rd (ax, l.length, cx, l) (by simp))).mono ?_
  rintro e w6 ⟨rfl, q, rfl⟩
  have S6 := hid (S5.out.drewN q)
  clear S5
  generalize w5.drewN q = w6 at *
  go_wp2_with fail
  refine (rhas_any _ _ _ l id _ (S6.out.rd (a, l.length, c, l) (by simp))).mono ?_
  rintro e w7 ⟨rfl, rfl⟩
  generalize (ix id l).isSome = q0 at *
  go_wp2_with fail
  refine (top_any _ _ _ l id _ p (HP.out _ S6.out.bel) (S6.out.rd (ax, l.length, cx, l) (by simp)) hn1).mono ?_
  rintro e w8 h1
  obtain ⟨l9, hl9⟩ : ∃ l9, dr id l ++ [id] = l9 := ⟨_, rfl⟩
  rw [hl9] at h1
  have H9 := hid hl9
  clear hl9
  obtain ⟨a8, c8, rfl, hr1, hb1⟩ := owz_rd h1
  have S8 := hid (S6.out.add hb1 hr1)
  clear h1 hr1 hb1 S6
  go_wp2_with fail
  refine (rtop_any _ _ _ l id _ (S8.out.rd (a, l.length, c, l) (by simp)) hn1).mono ?_
  rintro e w9 h1
  rw [H9.out] at h1
  obtain ⟨a9, c9, rfl, hr1, hb1⟩ := owz_rd h1
  have S9 := hid (S8.out.add hb1 hr1)
  clear h1 hr1 hb1 S8
  go_wp2_with fail
  refine (samez_any _ _ _ _ _ _ l9 l9 _ (S9.out.rd (a8, l9.length, c8, l9) (by simp)) (S9.out.rd (a9, l9.length, c9, l9) (by simp))).mono ?_
  rintro e w10 ⟨rfl, q10, rfl⟩
  rw [zeq_same]
  have S10 := hid (S9.out.drewN q10)
  clear S9
  generalize w9.drewN q10 = w10 at *
  go_wp2_with fail
  refine (drop_any _ _ _ l id _ p (HP.out _ S10.out.bel) (S10.out.rd (ax, l.length, cx, l) (by simp)) hn1).mono ?_
  rintro e w11 h1
  obtain ⟨a11, c11, rfl, hr1, hb1⟩ := owz_rd h1
  have S11 := hid (S10.out.add hb1 hr1)
  clear h1 hr1 hb1 S10
  go_wp2_with fail
  refine (rdrop_any _ _ _ l id _ (S11.out.rd (a, l.length, c, l) (by simp)) hn1).mono ?_
  rintro e w12 h1
  obtain ⟨a12, c12, rfl, hr1, hb1⟩ := owz_rd h1
  have S12 := hid (S11.out.add hb1 hr1)
  clear h1 hr1 hb1 S11
  generalize hm12 : (dr id l).length = n12 at *
  clear hm12
  generalize dr id l = l12 at *
  go_wp2_with fail
  refine (samez_any _ _ _ _ _ _ l12 l12 _ (S12.out.rd (a11, n12, c11, l12) (by simp)) (S12.out.rd (a12, n12, c12, l12) (by simp))).mono ?_
  rintro e w13 ⟨rfl, q13, rfl⟩
  rw [zeq_same]
  have S13 := hid (S12.out.drewN q13)
  clear S12
  generalize w12.drewN q13 = w13 at *
  go_wp2_with fail
  refine (samez_any _ _ _ _ _ _ _ _ _ (S13.out.rd (a2, n2, c2, r1.getD []) (by simp)) (S13.out.rd (a3, n3, c3, r1.getD []) (by simp))).mono ?_
  rintro e w14 ⟨rfl, q14, rfl⟩
  rw [zeq_same]
  have S14 := hid (S13.out.drewN q14)
  clear S13
  generalize w13.drewN q14 = w14 at *
  go_wp2_with fail
  refine (kind_pe (HE.out _ S14.out.bel) HPE.out r1.isNone).mono ?_
  rintro e w15 ⟨rfl, hb15⟩
  have S15 := hid (S14.out.on hb15)
  clear S14 hb15
  generalize kz r1.isNone = k1 at *
  go_wp2_with fail
  refine (samez_any _ _ _ _ _ _ _ _ _ (S15.out.rd (a4, n4, c4, r0.getD []) (by simp)) (S15.out.rd (a5, n5, c5, r0.getD []) (by simp))).mono ?_
  rintro e w16 ⟨rfl, q16, rfl⟩
  rw [zeq_same]
  have S16 := hid (S15.out.drewN q16)
  clear S15
  generalize w15.drewN q16 = w16 at *
  go_wp2_with fail
  refine (kind_pe (HE.out _ S16.out.bel) HPE.out r0.isNone).mono ?_
  rintro e w17 ⟨rfl, hb17⟩
  have S17 := hid (S16.out.on hb17)
  clear S16 hb17
  generalize kz r0.isNone = k0 at *
  go_wp2_with fail
  refine (samez_any _ _ _ _ _ _ l l _ (S17.out.rd (ax, l.length, cx, l) (by simp)) (S17.out.rd (a, l.length, c, l) (by simp))).mono ?_
  rintro e w18 ⟨rfl, q18, rfl⟩
  rw [zeq_same]
  have S18 := hid (S17.out.drewN q18)
  clear S17
  generalize w17.drewN q18 = w18 at *
  go_wp2_with fail
  refine (awake_any _ es (HE.out _ S18.out.bel)).mono ?_
  rintro e w19 ⟨rfl, hb19⟩
  have HB := hid (Below.on S18.out.bel hb19)
  clear S18 hb19
  go_wp2
  go_ret
  exact ⟨rfl, HB.out⟩

theorem walk (a : Option Addr) (n c : Nat) (l : List Int) (id by_ : Int) (w : World) (hr : RdI .i64 w a n c l) (_ : c * 8 ≤ 140737488351232) (_ : (Lit.int .i64 id).wf = true) (_ : (Lit.int .i64 by_).wf = true) (hL : laidMetH Tryd.prog Rows.orderAllRow.laid w) :
    Calls Tryd.prog 3 #[.slice a n c, .int .i64 id, .int .i64 by_] w fun e w' => e = .returned (.bool true) ∧ Below w.heap.size w w' := by
  obtain ⟨es, hE⟩ := errs16 hL
  exact core a n c l id by_ w (rz_of_rdi hr) es hE
end Go.Proofs.YtfmlmkcgneiadaaDoor.orderAll
